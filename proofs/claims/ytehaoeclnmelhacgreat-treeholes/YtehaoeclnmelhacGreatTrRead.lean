/-
  read: where nothing is wrong.
-/
import Derived.Test.YtehaoeclnmelhacGreatLayPz
import Derived.Test.YtehaoeclnmelhacGreatLayTop
namespace Go.Proofs.YtehaoeclnmelhacGreat
open Go Go.Proofs Go.RowKit Go.Shelf
attribute [local go_sem] Oper.semAt_some

/-- The bytes of a file behind k runs. -/
def rdP (off : Int) (L : Nat) (p : List (Int × List Int)) : Nat → List Int
  | 0 => zeros L
  | k + 1 => match getP p (pzB off k) with
    | none => rdP off L p k
    | some d => splice (rdP off L p k) (pzF off L k).toNat ((d.drop (pzA off k).toNat).take (pzF off L (k + 1) - pzF off L k).toNat)
theorem rd_len {off : Int} {L : Nat} (h0 : 0 ≤ off) {p : List (Int × List Int)} {k : Nat} (hk : k ≤ pzN off L) : (rdP off L p k).length = L := by
  induction k with
  | zero => exact zeros_length L
  | succ k ih =>
    have ih := ih (by omega)
    rw [rdP]
    cases hg : getP p (pzB off k) with
    | none => exact ih
    | some d =>
      obtain ⟨p0, p1, p2, p3, p4, p5, p6, p7, p8, p9⟩ := pz_in h0 (show (0 : Int) ≤ (L : Int) by omega) (show k < pzN off L by omega)
      simp only
      rw [length_splice _ _ _ (by rw [List.length_take]; omega)]
      exact ih
/-- Between two rounds. -/
structure RdI (w : World) (g : Nat) (off : Int) (L : Nat) (p : List (Int × List Int)) (k : Nat) (W : World) : Prop where
  row : RAt W g (rdP off L p k)
  only : Only (fun j => j = g) w W
theorem RdI_own {w : World} {g : Nat} {off : Int} {L : Nat} {p : List (Int × List Int)} (hg0 : g < w.heap.size) (k : Nat) (A B : World) (row : Option Nat) (h : RdI w g off L p k A) (hg : A.grownBy B row) (hrow : ∀ q, row = some q → q = w.heap.size + 1) : RdI w g off L p k B :=
  ⟨(hg.block g (lt_of_block h.row) (fun e => by have := hrow g e.symm; omega)).trans h.row, h.only.grown hg (fun q e => .inr (by have := hrow q e; omega))⟩
set_option maxRecDepth 100000 in
theorem exec_allocD {ev : Operand → Value} {oi : Oper} {W : World} (ho : oi.op = .alloc 28) : (execOp ev oi).run Tryz.prog W = .ok (.value (.pointer (some ⟨W.heap.size, 0, none⟩))) (W.alloc (.cells #[.slice none 0 0] 28)) := by
  unfold execOp
  simp only [ho]
  go_simp
/-- copy(b, s) of a longer row. -/
theorem copyc_run (W : World) (g o dLen dCap : Nat) (xs ys : List Int) (a : Addr) (n c : Nat) (h : RAt W g xs) (hb : BAt W (some a) n ys) (hl : o + dLen ≤ xs.length) (hn : dLen ≤ n) :
    ∃ W', (Builtin.copy_ #[28, 28] 3 #[.slice (some ⟨g, o, none⟩) dLen dCap, .slice (some a) n c]).run Tryz.prog W = .ok (.int .i64 (dLen : Nat)) W' ∧ RAt W' g (splice xs o (ys.take dLen)) ∧ Only (fun k => k = g) W W' := by
  obtain ⟨i0, hi, hz0, hz1, hz2⟩ := info5p
  have hyl := hb.1
  have htl : (ys.take dLen).length = dLen := by rw [List.length_take]; omega
  have hcl : (By (ys.take dLen)).length = min n dLen := by rw [By_length, htl]; omega
  have hr := run_copy_row (P := Tryz.prog) W 28 28 3 5 g o dLen dCap a n c (By xs).toArray 5 (By (ys.take dLen)) Tryz.underlying28 (by rw [hi]; simp [hz1]) h hcl (fun j u hj => by
    have hjl := (List.getElem?_eq_some_iff.1 hj).1
    rw [By_length, htl] at hjl
    rw [By_get _ j (by omega)] at hj
    obtain ⟨a', e, hc⟩ := hb.at j (by omega)
    cases e
    rw [hc, ← hj]
    simp only [List.getD, List.getElem?_take, if_pos hjl]) (by rw [By_length, htl]; simp [By_length]; omega) (By_one _)
  refine ⟨W.setRow g (By (splice xs o (ys.take dLen))).toArray, hr.trans ?_, setRow_heap W g _ _ 5 _ h, (Only.refl (fun k => k = g) W).setRow (.inl rfl) _⟩
  rw [By_length, htl]
  have e : (By xs).toArray.toList.take o ++ By (ys.take dLen) ++ (By xs).toArray.toList.drop (o + dLen) = By (splice xs o (ys.take dLen)) := by
    unfold splice
    rw [htl]
    simp [By]
  rw [e]
  rfl
set_option maxRecDepth 100000 in
theorem exec_sl3 {ev : Operand → Value} {oi : Oper} {s y z : Operand} {W : World} (g L F E : Nat) (h : F < E ∧ E ≤ L ∧ L ≤ 8192) (ho : oi.op = .slice 28 s (some y) (some z) none) (hs : ev s = .slice (some ⟨g, 0, none⟩) L L) (hy : ev y = .int .i64 (F : Int)) (hz : ev z = .int .i64 (E : Int)) : (execOp ev oi).run Tryz.prog W = .ok (.value (.slice (some ⟨g, F, none⟩) (E - F) (L - F))) W := by
  unfold execOp
  rw [ho]
  simp only [hs, hy, hz, Option.map]
  have a1 : E ≤ L := by omega
  have a2 : F ≤ E := by omega
  have a3 : ¬ L = F := by omega
  go_simp
set_option maxRecDepth 100000 in
set_option maxHeartbeats 4000000 in
theorem read_main (w : World) (t : Nat) (σ : Tr) (Ls : List Lay) (hT : TrAt w t σ Ls) (hOk : ∀ x ∈ σ.nodes, x.Ok) (kk : Int) (s s2 : ByteArray) (off N : Int) (dp : Option Addr) (dl dc : Nat) (hs : s.size ≤ 16777216) (j : Nat) (he : fileE σ.nodes (ofS s) = (some j, 0)) (hj : j < σ.nodes.length) (hjk : (nodeAt σ.nodes j).isDir = false) (h0 : 0 ≤ off) (h1 : off ≤ 67379200) (hN0 : 0 ≤ N) (hN1 : N ≤ 8192) (hz : 0 ≤ (nodeAt σ.nodes j).size ∧ (nodeAt σ.nodes j).size ≤ 67379200) (L : Nat) (hL : (L : Int) = max 0 (min N ((nodeAt σ.nodes j).size - off))) :
    Calls Tryz.prog 26 #[ptrV t, callV kk s s2 off N (.slice dp dl dc)] w fun e w' => ∃ g, e = .returned (.agg #[.int .i64 0, .slice (some ⟨g, 0, none⟩) L L, .int .i64 0, .int .i64 0, .int .i64 0, .slice none 0 0, .int .i64 0]) ∧ Below w.heap.size w w' ∧ RAt w' g (rdP off L (nodeAt σ.nodes j).parts (pzN off L)) ∧ w.heap.size + 2 ≤ g := by
  obtain ⟨b, m, r, l, z, p, q1, q2, q3, q4, q5⟩ := hT.fileAt hj hjk
  have hok : (Nd.file l z p).Ok := hOk _ (List.mem_of_getElem? q2)
  have hpp : (nodeAt σ.nodes j).parts = p := by rw [q5]; rfl
  have hzz : (nodeAt σ.nodes j).size = z := by rw [q5]; rfl
  rw [hpp]
  rw [hzz] at hz hL
  have HFI : Hid (∀ W, Below w.heap.size w W → _) := Hid.mk (fun W (hB : Below w.heap.size w W) => file_any W t σ Ls (hT.below rfl hB) s hs)
  rw [he] at HFI
  simp only [optV, ptrV, q4] at HFI
  have hnd : (b :: m :: r).Nodup := foot_nodup (List.nodup_cons.1 hT.apart).2 q1
  have HPT : Hid (PtAt w m r p) := Hid.mk (q3.parts hok.1 (List.nodup_cons.1 hnd).2)
  have HND : Hid (w.heap[b]? = some (.cells #[.int .i64 1, .int .i64 l, .int .i64 z, .map (some m), .slice none 0 0, .map none] 62 (0, 0))) := Hid.mk q3.node
  have HFL : Hid (∀ q ∈ b :: m :: r, q < w.heap.size) := Hid.mk (fun q hq => NdAt.lt (loc := fun _ => 0) (L := .file b m r) (d := .file l z p) q3 q hq)
  have c1 : ¬ off < 0 := by omega
  have c2 : ¬ N < 0 := by omega
  have c3 : ¬ (8192 : Int) < N := by omega
  have c4 : IntKind.i64.wrap (z - off) = z - off := by rw [IntKind.wrap_i64]; omega
  have HNUM : Hid (0 ≤ off ∧ off ≤ 67379200 ∧ L ≤ 8192) := Hid.mk (by omega)
  have HL := Hid.mk hL
  clear hT hOk he hj hjk hpp hok q1 q2 q3 q5 hs hzz hnd hL hz
  unfold callV ptrV at *
  refine (callsIn_wide (n := 5)).1 ?_
  refine callsIn_of_wp_marks Tryz.func26 rfl trivial ?_ rfl
  simp only [Tryz.ntmps26, List.size_toArray, List.length_cons, List.length_nil, Nat.reduceAdd, Nat.reduceSub, Array.replicate_succ, Array.replicate_zero, List.push_toArray, List.append_toArray, List.nil_append, List.cons_append]
  gi_wp2_with fail
  obtain ⟨X, hX⟩ : ∃ X, X = (w.alloc (.cells #[.int .i64 kk, .string s, .string s2, .int .i64 off, .int .i64 N, .slice dp dl dc] 34)).alloc (.cells #[.int .i64 0, .slice none 0 0, .int .i64 0, .int .i64 0, .int .i64 0, .slice none 0 0, .int .i64 0] 31) := ⟨_, rfl⟩
  have hXB : Below w.heap.size w X := by rw [hX]; exact ((Below.refl _ w).alloc (Nat.le_refl _) _).alloc (by simp) _
  have hXs : X.heap.size = w.heap.size + 2 := by rw [hX]; simp
  have hX0 : X.heap[w.heap.size]? = some (.cells #[.int .i64 kk, .string s, .string s2, .int .i64 off, .int .i64 N, .slice dp dl dc] 34 (0, 0)) := by rw [hX, Below.heap_alloc _ _ _ (by simp)]; exact blk_new w _
  have hX1 : X.heap[w.heap.size + 1]? = some (.cells #[.int .i64 0, .slice none 0 0, .int .i64 0, .int .i64 0, .int .i64 0, .slice none 0 0, .int .i64 0] 31 (0, 0)) := by
    rw [hX]
    have := blk_new (w.alloc (.cells #[.int .i64 kk, .string s, .string s2, .int .i64 off, .int .i64 N, .slice dp dl dc] 34)) (.cells #[.int .i64 0, .slice none 0 0, .int .i64 0, .int .i64 0, .int .i64 0, .slice none 0 0, .int .i64 0] 31)
    rwa [World.size_alloc] at this
  rw [← hX]
  clear hX
  have f1 := blk_cell hX0 1
  have f3 := blk_cell hX0 3
  have f4 := blk_cell hX0 4
  simp at f1 f3 f4
  have HXB := Hid.mk hXB
  have HXS := Hid.mk hXs
  have HX0 := Hid.mk hX0
  have HX1 := Hid.mk hX1
  clear hXB hXs hX0 hX1
  gi_wp2_with (refine ⟨trivial, ?_⟩; gi_at_call 48; refine (callsIn_wide.2 (HFI.out X HXB.out)).mono ?_; rintro e' W1 ⟨rfl, hB1⟩; have HB1 := Hid.mk hB1; clear hB1 f1 f3 f4)
  obtain ⟨V, hV⟩ : ∃ V, V = W1.alloc (.cells #[.pointer (some ⟨b, 0, none⟩)] 49) := ⟨_, rfl⟩
  have hBV : Below w.heap.size w V := by rw [hV]; have := HXB.out.trans (HB1.out.mono HXB.out.size); exact this.alloc this.size _
  have hVs : V.heap.size = W1.heap.size + 1 := by rw [hV]; simp
  have hbl : ∀ q, q < X.heap.size → V.heap[q]? = X.heap[q]? := fun q hq => by rw [hV, Below.heap_alloc _ _ _ (Nat.lt_of_lt_of_le hq HB1.out.size)]; exact HB1.out.block q hq
  have hcl := (hbl _ (lt_of_block HX0.out)).trans HX0.out
  have hrs := (hbl _ (lt_of_block HX1.out)).trans HX1.out
  have hnb : V.heap[W1.heap.size]? = some (.cells #[.pointer (some ⟨b, 0, none⟩)] 49 (0, 0)) := by rw [hV]; exact blk_new W1 _
  have hnd := (hBV.block b (HFL.out b (by simp))).trans HND.out
  have hptV : PtAt V m r p := HPT.out.kept (fun q hq => hBV.block q (HFL.out q (by simp at hq ⊢; exact .inr hq)))
  have hw1s : w.heap.size + 2 ≤ W1.heap.size := by have h1 := HB1.out.size; have h2 := HXS.out; omega
  rw [← hV]
  clear hV hbl HX0 HX1 HXB HXS HB1
  have HS6 : Hid (V.drew.cell? ⟨w.heap.size, 4, none⟩ = some (.int .i64 N) ∧ V.drew.cell? ⟨W1.heap.size, 0, none⟩ = some (.pointer (some ⟨b, 0, none⟩)) ∧ V.drew.cell? ⟨b, 2, none⟩ = some (.int .i64 z) ∧ V.drew.cell? ⟨w.heap.size, 3, none⟩ = some (.int .i64 off)) := Hid.mk ⟨by rw [blk_cell (w := V.drew) hcl]; rfl, by rw [blk_cell (w := V.drew) hnb]; rfl, by rw [blk_cell (w := V.drew) hnd]; rfl, by rw [blk_cell (w := V.drew) hcl]; rfl⟩
  have hkeep : ∀ V5 : World, (∀ q, q < V.heap.size → V5.heap[q]? = V.heap[q]?) → V5.cell? ⟨w.heap.size, 4, none⟩ = some (.int .i64 N) ∧ V5.cell? ⟨W1.heap.size, 0, none⟩ = some (.pointer (some ⟨b, 0, none⟩)) ∧ V5.cell? ⟨b, 2, none⟩ = some (.int .i64 z) ∧ V5.cell? ⟨w.heap.size, 3, none⟩ = some (.int .i64 off) := fun V5 h => by
    have e1 := (h _ (lt_of_block hcl)).trans hcl
    have e2 := (h _ (lt_of_block hnb)).trans hnb
    have e3 := (h _ (lt_of_block hnd)).trans hnd
    exact ⟨by rw [blk_cell e1]; rfl, by rw [blk_cell e2]; rfl, by rw [blk_cell e3]; rfl, by rw [blk_cell e1]; rfl⟩
  have HKP := Hid.mk hkeep
  have HBV := Hid.mk hBV
  have HCL := Hid.mk hcl
  have HRS := Hid.mk hrs
  have HNB := Hid.mk hnb
  have HNV := Hid.mk hnd
  have HPV := Hid.mk hptV
  have HW1 := Hid.mk hw1s
  have HVS := Hid.mk hVs
  have hmk : ∀ Y : World, (Instr.makeSlice 28 (.int .i64 (max 0 (min N (z - off)))) (.int .i64 (max 0 (min N (z - off))))).run Tryz.prog Y = .ok (.slice (some ⟨Y.heap.size, 0, none⟩) L L) (Y.alloc (.cells (By (zeros L)).toArray 5)) := fun Y => by rw [← HL.out]; exact make_run Y L (by have := HNUM.out; omega)
  have HMK := Hid.mk hmk
  clear hBV hcl hrs hnb hnd hptV hw1s hVs hkeep hmk
  refine wide_region_held (S := fun W => W.cell? ⟨w.heap.size, 4, none⟩ = some (.int .i64 N) ∧ W.cell? ⟨W1.heap.size, 0, none⟩ = some (.pointer (some ⟨b, 0, none⟩)) ∧ W.cell? ⟨b, 2, none⟩ = some (.int .i64 z) ∧ W.cell? ⟨w.heap.size, 3, none⟩ = some (.int .i64 off)) (by kernel_rfl) (by kernel_rfl) HS6.out (fun hH => ?_)
  change wpAnyH Tryz.prog Region.Mode.any _ _ _ 14 _ _ _
  refine takeH 0 36 (.pointer (some ⟨w.heap.size, 4, none⟩)) rfl (by kernel_rfl) (by kernel_rfl) (by kernel_rfl) (by kernel_rfl) (fun _ _ _ h => h) (by kernel_rfl) (fun w hw => by (try dsimp only at hw); obtain ⟨hw1, hw2, hw3, hw4⟩ := hw; go_simp) hH ?_
  simp only [List.setIfInBounds_toArray, List.set_cons_zero, List.set_cons_succ]
  refine takeH 1 37 (.int .i64 N) rfl (by kernel_rfl) (by kernel_rfl) (by kernel_rfl) (by kernel_rfl) (fun _ _ _ h => h) (by kernel_rfl) (fun w hw => by (try dsimp only at hw); obtain ⟨hw1, hw2, hw3, hw4⟩ := hw; go_simp) hH ?_
  simp only [List.setIfInBounds_toArray, List.set_cons_zero, List.set_cons_succ]
  refine takeH 2 38 (.pointer (some ⟨b, 0, none⟩)) rfl (by kernel_rfl) (by kernel_rfl) (by kernel_rfl) (by kernel_rfl) (fun _ _ _ h => h) (by kernel_rfl) (fun w hw => by (try dsimp only at hw); obtain ⟨hw1, hw2, hw3, hw4⟩ := hw; go_simp) hH ?_
  simp only [List.setIfInBounds_toArray, List.set_cons_zero, List.set_cons_succ]
  refine takeH 3 39 (.pointer (some ⟨b, 0, none⟩)) rfl (by kernel_rfl) (by kernel_rfl) (by kernel_rfl) (by kernel_rfl) (fun _ _ _ h => h) (by kernel_rfl) (fun w hw => by (try dsimp only at hw); obtain ⟨hw1, hw2, hw3, hw4⟩ := hw; go_simp) hH ?_
  simp only [List.setIfInBounds_toArray, List.set_cons_zero, List.set_cons_succ]
  refine takeH 4 40 (.pointer (some ⟨b, 2, none⟩)) rfl (by kernel_rfl) (by kernel_rfl) (by kernel_rfl) (by kernel_rfl) (fun _ _ _ h => h) (by kernel_rfl) (fun w hw => by (try dsimp only at hw); obtain ⟨hw1, hw2, hw3, hw4⟩ := hw; go_simp) hH ?_
  simp only [List.setIfInBounds_toArray, List.set_cons_zero, List.set_cons_succ]
  refine takeH 5 41 (.int .i64 z) rfl (by kernel_rfl) (by kernel_rfl) (by kernel_rfl) (by kernel_rfl) (fun _ _ _ h => h) (by kernel_rfl) (fun w hw => by (try dsimp only at hw); obtain ⟨hw1, hw2, hw3, hw4⟩ := hw; go_simp) hH ?_
  simp only [List.setIfInBounds_toArray, List.set_cons_zero, List.set_cons_succ]
  refine takeH 6 42 (.pointer (some ⟨w.heap.size, 3, none⟩)) rfl (by kernel_rfl) (by kernel_rfl) (by kernel_rfl) (by kernel_rfl) (fun _ _ _ h => h) (by kernel_rfl) (fun w hw => by (try dsimp only at hw); obtain ⟨hw1, hw2, hw3, hw4⟩ := hw; go_simp) hH ?_
  simp only [List.setIfInBounds_toArray, List.set_cons_zero, List.set_cons_succ]
  refine takeH 7 43 (.int .i64 off) rfl (by kernel_rfl) (by kernel_rfl) (by kernel_rfl) (by kernel_rfl) (fun _ _ _ h => h) (by kernel_rfl) (fun w hw => by (try dsimp only at hw); obtain ⟨hw1, hw2, hw3, hw4⟩ := hw; go_simp) hH ?_
  simp only [List.setIfInBounds_toArray, List.set_cons_zero, List.set_cons_succ]
  refine takeH 8 44 (.int .i64 (z - off)) rfl (by kernel_rfl) (by kernel_rfl) (by kernel_rfl) (by kernel_rfl) (fun _ _ _ h => h) (by kernel_rfl) (fun w hw => by (try dsimp only at hw); obtain ⟨hw1, hw2, hw3, hw4⟩ := hw; go_simp) hH ?_
  simp only [List.setIfInBounds_toArray, List.set_cons_zero, List.set_cons_succ]
  refine takeH 9 45 (.int .i64 (min N (z - off))) rfl (by kernel_rfl) (by kernel_rfl) (by kernel_rfl) (by kernel_rfl) (fun _ _ _ h => h) (by kernel_rfl) (fun w hw => by (try dsimp only at hw); obtain ⟨hw1, hw2, hw3, hw4⟩ := hw; go_simp) hH ?_
  simp only [List.setIfInBounds_toArray, List.set_cons_zero, List.set_cons_succ]
  refine takeH 10 46 (.int .i64 (max 0 (min N (z - off)))) rfl (by kernel_rfl) (by kernel_rfl) (by kernel_rfl) (by kernel_rfl) (fun _ _ _ h => h) (by kernel_rfl) (fun w hw => by (try dsimp only at hw); obtain ⟨hw1, hw2, hw3, hw4⟩ := hw; go_simp) hH ?_
  simp only [List.setIfInBounds_toArray, List.set_cons_zero, List.set_cons_succ]
  refine stepH_two 11 12 (by kernel_rfl) ?_ ?_
  · obtain ⟨g, hg⟩ : ∃ g, g = V.drew.heap.size := ⟨_, rfl⟩
    obtain ⟨Y, hY⟩ : ∃ Y, Y = V.drew.alloc (.cells (By (zeros L)).toArray 5) := ⟨_, rfl⟩
    have e := HMK.out V.drew
    rw [← hg, ← hY] at e
    have hYs : Y.heap.size = g + 1 := by rw [hY, hg]; simp
    have hYk : ∀ q, q < V.heap.size → Y.heap[q]? = V.heap[q]? := fun q hq => by rw [hY]; exact Below.heap_alloc _ _ _ hq
    have hYg : Y.heap[g]? = some (.cells (By (zeros L)).toArray 5 (0, 0)) := by rw [hY, hg]; exact blk_new _ _
    refine opH_run 11 47 (.slice (some ⟨g, 0, none⟩) L L) Y rfl (by kernel_rfl) (by kernel_rfl) (exec_mk rfl (by kernel_rfl) (by kernel_rfl) e) (HKP.out Y hYk) ?_
    simp only [List.setIfInBounds_toArray, List.set_cons_zero, List.set_cons_succ]
    obtain ⟨db, hdb⟩ : ∃ db, db = Y.heap.size := ⟨_, rfl⟩
    obtain ⟨Z, hZ⟩ : ∃ Z, Z = Y.alloc (.cells #[.slice none 0 0] 28) := ⟨_, rfl⟩
    have hZk : ∀ q, q < V.heap.size → Z.heap[q]? = V.heap[q]? := fun q hq => by rw [hZ, Below.heap_alloc _ _ _ (by have : V.drew.heap.size = V.heap.size := rfl; omega)]; exact hYk q hq
    have hZg : Z.heap[g]? = some (.cells (By (zeros L)).toArray 5 (0, 0)) := by rw [hZ, Below.heap_alloc _ _ _ (by omega)]; exact hYg
    have hZd : Z.heap[db]? = some (.cells #[.slice none 0 0] 28 (0, 0)) := by rw [hZ, hdb]; exact blk_new _ _
    have hgd : g ≠ db ∧ V.heap.size ≤ g ∧ V.heap.size ≤ db ∧ g < Z.heap.size ∧ db < Z.heap.size := by
      have e1 : V.drew.heap.size = V.heap.size := rfl
      exact ⟨by omega, by omega, by omega, lt_of_block hZg, lt_of_block hZd⟩
    refine stepH_run 12 7 (.pointer (some ⟨db, 0, none⟩)) Z rfl (by kernel_rfl) (by kernel_rfl) (by kernel_rfl) (by rw [hdb, hZ]; exact exec_allocD (by kernel_rfl)) (HKP.out Z hZk) ?_
    simp only [List.setIfInBounds_toArray, List.set_cons_zero, List.set_cons_succ]
    have HZO : Hid (Below w.heap.size w Z) := Hid.mk (by rw [hZ, hY]; exact (HBV.out.drew.alloc HBV.out.size _).alloc (by simp; have := HBV.out.size; exact Nat.le_succ_of_le this) _)
    clear hY hYs hYk hYg e hZ hg hdb
    have d0 := blk_cell hZd 0
    have d1 := blk_free hZd 0
    simp at d0
    obtain ⟨V5, hV5⟩ : ∃ V5, V5 = Z.setCell ⟨db, 0, none⟩ (.slice (some ⟨g, 0, none⟩) L L) := ⟨_, rfl⟩
    have hUk : ∀ q, q < V.heap.size → V5.heap[q]? = V.heap[q]? := fun q hq => by rw [hV5]; exact (Below.heap_setCell _ _ _ _ (by show q ≠ db; omega)).trans (hZk q hq)
    have hUg : V5.heap[g]? = some (.cells (By (zeros L)).toArray 5 (0, 0)) := by rw [hV5]; exact (Below.heap_setCell _ _ _ _ hgd.1).trans hZg
    have hUd : V5.heap[db]? = some (.cells #[.slice (some ⟨g, 0, none⟩) L L] 28 (0, 0)) := by rw [hV5, blk_set hZd]; rfl
    have hUs : V5.heap.size = Z.heap.size := by rw [hV5]; simp [World.setCell]
    have hUB : Below w.heap.size w V5 := by rw [hV5]; exact HZO.out.setCell (p := ⟨db, 0, none⟩) (by have := HBV.out.size; show w.heap.size ≤ db; omega) _
    refine stepH_one 13 (by kernel_rfl) ?_
    refine opH_store 13 V5 rfl (by kernel_rfl) (by kernel_rfl) (by rw [hV5]; go_simp) (HKP.out V5 hUk) ?_
    refine wpAnyH_done (by kernel_rfl) ?_ _
    dsimp only [Norm]
    have i3 := blk_cell ((hUk _ (lt_of_block HCL.out)).trans HCL.out) 3
    have i7 := blk_cell hUd 0
    simp at i3 i7
    have HUK := Hid.mk hUk
    have HUG := Hid.mk hUg
    have HUD := Hid.mk hUd
    have HUB := Hid.mk hUB
    have HGD : Hid (g ≠ db ∧ V.heap.size ≤ g ∧ V.heap.size ≤ db ∧ g < V5.heap.size ∧ db < V5.heap.size) := Hid.mk (by rw [hUs]; exact hgd)
    clear hH HS6 hV5 hUk hUg hUd hUs hUB hZk hZg hZd hgd d0 d1 HZO HMK
    gi_wp2_with (refine ⟨trivial, ?_⟩; gi_at_call 49; refine (callsIn_wide.2 (pieces_any _ off L)).mono ?_; rintro e w4 ⟨rfl, hw4⟩; have HW4 := Hid.mk hw4; clear hw4)
    have hs4 : w4.heap.size = V5.heap.size + 2 := by rw [HW4.out]; simp
    have hbl4 : ∀ q, q < V5.heap.size → w4.heap[q]? = V5.heap[q]? := fun q hq => by rw [HW4.out, Below.heap_alloc _ _ _ (by simp; omega), Below.heap_alloc _ _ _ hq]
    have hp2 : w4.heap[V5.heap.size]? = some (.cells #[.int .i64 off] 3 (0, 0)) := by rw [HW4.out, Below.heap_alloc _ _ _ (by simp)]; exact blk_new V5 _
    have hp3 : w4.heap[V5.heap.size + 1]? = some (.cells #[.int .i64 L] 3 (0, 0)) := by
      rw [HW4.out]
      have := blk_new (V5.alloc (.cells #[.int .i64 off] 3)) (.cells #[.int .i64 L] 3)
      rwa [World.size_alloc] at this
    have hB4 : Below w.heap.size w w4 := by rw [HW4.out]; exact (HUB.out.alloc HUB.out.size _).alloc (by simp; have := HUB.out.size; exact Nat.le_succ_of_le this) _
    have hvl : V.heap.size ≤ V5.heap.size := by have := HGD.out; omega
    have hK4 : ∀ q, q < V.heap.size → w4.heap[q]? = V.heap[q]? := fun q hq => (hbl4 q (by omega)).trans (HUK.out q hq)
    have hcl4 := (hK4 _ (lt_of_block HCL.out)).trans HCL.out
    have hrs4 := (hK4 _ (lt_of_block HRS.out)).trans HRS.out
    have hnb4 := (hK4 _ (lt_of_block HNB.out)).trans HNB.out
    have hnd4 := (hK4 _ (lt_of_block HNV.out)).trans HNV.out
    have hdb4 := (hbl4 _ HGD.out.2.2.2.2).trans HUD.out
    have hpt4 : PtAt w4 m r p := HPT.out.kept (fun q hq => hB4.block q (HFL.out q (by simp at hq ⊢; exact .inr hq)))
    have hg4 : RAt w4 g (rdP off L p 0) := (hbl4 _ HGD.out.2.2.2.1).trans HUG.out
    have hI0 : RdI w4 g off L p 0 w4 := ⟨hg4, Only.refl _ _⟩
    have hgl : g < w4.heap.size := lt_of_block hg4
    have HGL : Hid (g < w4.heap.size ∧ g ≠ db ∧ V.heap.size ≤ g ∧ w4.heap.size = V5.heap.size + 2 ∧ w.heap.size + 2 ≤ W1.heap.size ∧ W1.heap.size < V.heap.size ∧ g < V5.heap.size ∧ w.heap.size + 1 < V.heap.size) := Hid.mk ⟨hgl, HGD.out.1, HGD.out.2.1, hs4, HW1.out, by have := HVS.out; omega, HGD.out.2.2.2.1, by have := HVS.out; have := HW1.out; omega⟩
    have HFV : Hid (∀ q ∈ b :: m :: r, q < V.heap.size) := Hid.mk (fun q hq => by have := HFL.out q hq; have := HBV.out.size; omega)
    have HST : Hid (∀ q, q < w4.heap.size → q ≠ g → ∀ k W, RdI w4 g off L p k W → W.heap[q]? = w4.heap[q]?) := Hid.mk (fun q hq hne k W hI => hI.only.block q hq hne)
    have H4 := Hid.mk (And.intro hcl4 (And.intro hrs4 (And.intro hnb4 (And.intro hnd4 (And.intro hdb4 (And.intro hpt4 (And.intro hp2 (And.intro hp3 hB4))))))))
    have HL4 : Hid (w.heap.size < w4.heap.size ∧ w.heap.size + 1 < w4.heap.size ∧ W1.heap.size < w4.heap.size ∧ b < w4.heap.size ∧ db < w4.heap.size ∧ b < V.heap.size) := Hid.mk ⟨lt_of_block hcl4, lt_of_block hrs4, lt_of_block hnb4, lt_of_block hnd4, lt_of_block hdb4, HFV.out b (by simp)⟩
    clear hs4 hbl4 hp2 hp3 hB4 hvl hK4 hcl4 hrs4 hnb4 hnd4 hdb4 hpt4 hg4 i3 i7 HW4 HUK HUG HUD HUB HGD HCL HRS HNB HNV HPV HBV HKP
    refine wpIn_range_kx (gf := 61) (lb := #[.pointer (some ⟨V5.heap.size + 1, 0, none⟩), .pointer (some ⟨V5.heap.size, 0, none⟩)]) rfl (enters_of Tryz.func61 (by kernel_rfl) rfl) (pzN off L) (fun k => #[pzV off L k]) (fun _ => rfl)
      (RdI w4 g off L p) (fun _ => False) (fun k A B row h hg hr => RdI_own hgl k A B row h hg hr) (fun _ _ _ h _ _ => h.elim) hI0 ?hit
      (fun k W => { tmps := #[.pointer (some ⟨t, 0, none⟩), .agg #[.int .i64 kk, .string s, .string s2, .int .i64 off, .int .i64 N, .slice dp dl dc], undef, .pointer (some ⟨w.heap.size, 0, none⟩), .pointer (some ⟨w.heap.size + 1, 0, none⟩), .pointer (some ⟨W1.heap.size, 0, none⟩), .int .i64 0, .pointer (some ⟨db, 0, none⟩), .pointer (some ⟨W.heap.size, 0, none⟩), undef, undef, .pointer (some ⟨w.heap.size, 3, none⟩), .int .i64 off, .bool false, .bool false, .pointer (some ⟨w.heap.size, 4, none⟩), .int .i64 N, .bool false, .bool false, .bool false, .pointer (some ⟨w.heap.size, 4, none⟩), .int .i64 N, .bool false, .bool false, undef, .tuple #[.pointer (some ⟨b, 0, none⟩), .int .i64 0], .pointer (some ⟨t, 0, none⟩), .pointer (some ⟨w.heap.size, 1, none⟩), .string s, .tuple #[.pointer (some ⟨b, 0, none⟩), .int .i64 0], .pointer (some ⟨b, 0, none⟩), .int .i64 0, .int .i64 0, .bool false, undef, undef, .pointer (some ⟨w.heap.size, 4, none⟩), .int .i64 N, .pointer (some ⟨b, 0, none⟩), .pointer (some ⟨b, 0, none⟩), .pointer (some ⟨b, 2, none⟩), .int .i64 z, .pointer (some ⟨w.heap.size, 3, none⟩), .int .i64 off, .int .i64 (z - off), .int .i64 (min N (z - off)), .int .i64 (max 0 (min N (z - off))), .slice (some ⟨g, 0, none⟩) L L, .pointer (some ⟨w.heap.size, 3, none⟩), .int .i64 off, .slice (some ⟨g, 0, none⟩) L L, .int .i64 (L : Int), .func (.func 61) #[] #[.pointer (some ⟨V5.heap.size + 1, 0, none⟩), .pointer (some ⟨V5.heap.size, 0, none⟩)], pzV off L k, undef, undef, undef, undef, undef, undef, undef, undef, undef, undef, undef, undef, undef, undef, undef, undef, undef, undef, undef, undef, undef, undef, undef, undef], defers := [] })
      (fun k W => W.alloc (pzO off L k)) (fun k W => alloc_grown W _) ?assign ?body ?done ?stop
    case hit =>
      intro l' J Jx W hJI hg hY h0'
      have hn := HNUM.out
      have h2 := H4.out
      have h3 := HGL.out
      exact pieces1_in 4 (by omega) l' V5.heap.size off L h0 (by omega) (by omega) (by omega) J Jx W (fun k A hJ => ⟨by rw [blk_cell ((HST.out V5.heap.size (by omega) (by omega) k A (hJI k A hJ)).trans h2.2.2.2.2.2.2.1)]; rfl, by rw [blk_cell ((HST.out (V5.heap.size + 1) (by omega) (by omega) k A (hJI k A hJ)).trans h2.2.2.2.2.2.2.2.1)]; rfl⟩) hY h0'
    case assign =>
      intro l' k W K hK
      unfold pzO at hK
      unfold pzV at hK ⊢
      generalize pzB off k = x1 at *
      generalize pzA off k = x2 at *
      generalize pzF off L k = x3 at *
      generalize pzF off L (k + 1) = x4 at *
      gi_wp2
      exact hK
    case body =>
      intro lp k W W2 hI hk hsz hg2 hs2
      have hn := HNUM.out
      have h4 := H4.out
      have h3 := HGL.out
      obtain ⟨p0, p1, p2, p3, p4, p5, p6, p7, p8, p9⟩ := pz_in h0 (show (0 : Int) ≤ (L : Int) by omega) hk
      have hIa := RdI_own hgl k W (W.alloc (pzO off L k)) none hI (alloc_grown W _) (by simp)
      have hI2 := RdI_own hgl k _ W2 _ hIa hg2 (fun q e => (Option.some.inj e).symm)
      have hbx : W2.heap[W.heap.size]? = some (pzO off L k) := (hg2.block W.heap.size (by simp) (fun e => by have := Option.some.inj e; omega)).trans (blk_new W _)
      have hsz2 : W2.heap.size = W.heap.size + 1 := by rw [hs2]; simp
      obtain ⟨x, hx⟩ : ∃ x, x = pzB off k := ⟨_, rfl⟩
      obtain ⟨A, hA⟩ : ∃ A : Nat, A = (pzA off k).toNat := ⟨_, rfl⟩
      obtain ⟨F, hF⟩ : ∃ F : Nat, F = (pzF off L k).toNat := ⟨_, rfl⟩
      obtain ⟨E, hE⟩ : ∃ E : Nat, E = (pzF off L (k + 1)).toNat := ⟨_, rfl⟩
      have hxb : 0 ≤ x ∧ x < 70000 := by rw [hx, ← p3]; omega
      have HA : Hid (A < 1024) := Hid.mk (by omega)
      have HF : Hid (F < E ∧ E ≤ L ∧ L ≤ 8192) := Hid.mk (by omega)
      have hef : E - F ≤ 1024 - A := by omega
      have hrl : (rdP off L p k).length = L := rd_len h0 (by omega)
      have hbx' : W2.heap[W.heap.size]? = some (.cells #[.int .i64 x, .int .i64 (A : Int), .int .i64 (F : Int), .int .i64 (E : Int)] 85 (0, 0)) := by
        rw [hbx]
        unfold pzO
        rw [← hx, show pzA off k = (A : Int) by omega, show pzF off L k = (F : Int) by omega, show pzF off L (k + 1) = (E : Int) by omega]
      have hrd : rdP off L p (k + 1) = match getP p x with
        | none => rdP off L p k
        | some d => splice (rdP off L p k) F ((d.drop A).take (E - F)) := by
        rw [rdP, ← hx, ← hA, ← hF, show (pzF off L (k + 1) - pzF off L k).toNat = E - F by omega]
      have hB2 : ∀ q, q < w4.heap.size → q ≠ g → W2.drew.heap[q]? = w4.heap[q]? := fun q hq hne => HST.out q hq hne k W2 hI2
      have hL4 := HL4.out
      have e1 := (hB2 W1.heap.size hL4.2.2.1 (by omega)).trans h4.2.2.1
      have e2 := (hB2 b hL4.2.2.2.1 (by omega)).trans h4.2.2.2.1
      have e3 := (hB2 db hL4.2.2.2.2.1 (fun e => h3.2.1 e.symm)).trans h4.2.2.2.2.1
      have hpt2 : PtAt W2.drew m r p := h4.2.2.2.2.2.1.kept (fun q hq => hB2 q (by have := HFV.out q (by simp at hq ⊢; exact .inr hq); omega) (by have := HFV.out q (by simp at hq ⊢; exact .inr hq); omega))
      have y1 : W2.drew.cell? ⟨W1.heap.size, 0, none⟩ = some (.pointer (some ⟨b, 0, none⟩)) := by rw [blk_cell e1]; rfl
      have y2 : W2.drew.cell? ⟨b, 3, none⟩ = some (.map (some m)) := by rw [blk_cell e2]; rfl
      have y3 : W2.drew.cell? ⟨W.heap.size, 0, none⟩ = some (.int .i64 x) := by rw [blk_cell (w := W2.drew) hbx']; rfl
      have HBX := Hid.mk hbx'
      have HRD := Hid.mk hrd
      have HI2 := Hid.mk hI2
      have HE3 := Hid.mk e3
      have HPT2 := Hid.mk hpt2
      have HEF := Hid.mk hef
      have HRL := Hid.mk hrl
      have HSZ : Hid (w4.heap.size + 2 ≤ W.heap.size ∧ W2.heap.size = W.heap.size + 1) := Hid.mk ⟨hsz, hsz2⟩
      have hlk := hpt2.blocks.look2 keyed3 Tryz.underlying60 (zero_bytes W2.drew) (Maps.keyOf_int_mk Tryz.underlying3 (okI_of (a := x) (by omega) (by omega)))
      have hnk : w4.heap.size ≠ g ∧ w4.heap.size + 1 ≠ g := by omega
      unfold pzV
      rw [← hx, show pzA off k = (A : Int) by omega, show pzF off L k = (F : Int) by omega, show pzF off L (k + 1) = (E : Int) by omega]
      clear hIa hI2 hbx hbx' hsz2 hrd hrl hef hB2 e1 e2 e3 hpt2 hg2 hs2 hI hsz hk p0 p1 p2 p3 p4 p5 p6 p7 p8 p9 hx hA hF hE hxb h4 hn hL4 hI0 hgl
      generalize W.heap.size = bx at *
      rcases HPT2.out.get x with ⟨g1, g2, g3⟩ | ⟨d, q, g1, g2, g3, g4⟩
      · rw [g3] at hlk
        simp only [Option.getD_none, Option.isSome_none] at hlk
        have HS0 : Hid (W2.drew.cell? ⟨W1.heap.size, 0, none⟩ = some (.pointer (some ⟨b, 0, none⟩)) ∧ W2.drew.cell? ⟨b, 3, none⟩ = some (.map (some m)) ∧ W2.drew.cell? ⟨bx, 0, none⟩ = some (.int .i64 x) ∧ (Instr.lookup 60 (.map (some m)) (.int .i64 x) true).run Tryz.prog W2.drew = .ok (.tuple #[.slice none 0 0, .bool false]) W2.drew) := Hid.mk ⟨y1, y2, y3, hlk⟩
        have HFIN : Hid (W2.drew.heap[w4.heap.size]? = W2.heap[w4.heap.size]? ∧ W2.drew.heap[w4.heap.size + 1]? = W2.heap[w4.heap.size + 1]? ∧ RdI w4 g off L p (k + 1) W2.drew) := Hid.mk ⟨rfl, rfl, ⟨by rw [HRD.out, g1]; exact HI2.out.row, ⟨HI2.out.only.os, HI2.out.only.tape, HI2.out.only.output, HI2.out.only.size, HI2.out.only.block⟩⟩⟩
        clear y1 y2 y3 hlk g1 g2 g3 hnk h3
        gi_wp2_with fail
        refine round_region_held (S := fun W => W.cell? ⟨W1.heap.size, 0, none⟩ = some (.pointer (some ⟨b, 0, none⟩)) ∧ W.cell? ⟨b, 3, none⟩ = some (.map (some m)) ∧ W.cell? ⟨bx, 0, none⟩ = some (.int .i64 x) ∧ (Instr.lookup 60 (.map (some m)) (.int .i64 x) true).run Tryz.prog W = .ok (.tuple #[.slice none 0 0, .bool false]) W) (by kernel_rfl) (by kernel_rfl) HS0.out (fun hH => ?_)
        change wpAnyH Tryz.prog Region.Mode.any _ _ _ 12 _ _ _
        refine takeH 0 55 (.pointer (some ⟨b, 0, none⟩)) rfl (by kernel_rfl) (by kernel_rfl) (by kernel_rfl) (by kernel_rfl) (fun _ _ _ h => h) (by kernel_rfl) (fun w hw => by (try dsimp only at hw); obtain ⟨hw1, hw2, hw3, hw4⟩ := hw; go_simp) hH ?_
        simp only [List.setIfInBounds_toArray, List.set_cons_zero, List.set_cons_succ]
        refine takeH 1 56 (.pointer (some ⟨b, 0, none⟩)) rfl (by kernel_rfl) (by kernel_rfl) (by kernel_rfl) (by kernel_rfl) (fun _ _ _ h => h) (by kernel_rfl) (fun w hw => by (try dsimp only at hw); obtain ⟨hw1, hw2, hw3, hw4⟩ := hw; go_simp) hH ?_
        simp only [List.setIfInBounds_toArray, List.set_cons_zero, List.set_cons_succ]
        refine takeH 2 57 (.pointer (some ⟨b, 3, none⟩)) rfl (by kernel_rfl) (by kernel_rfl) (by kernel_rfl) (by kernel_rfl) (fun _ _ _ h => h) (by kernel_rfl) (fun w hw => by (try dsimp only at hw); obtain ⟨hw1, hw2, hw3, hw4⟩ := hw; go_simp) hH ?_
        simp only [List.setIfInBounds_toArray, List.set_cons_zero, List.set_cons_succ]
        refine takeH 3 58 (.map (some m)) rfl (by kernel_rfl) (by kernel_rfl) (by kernel_rfl) (by kernel_rfl) (fun _ _ _ h => h) (by kernel_rfl) (fun w hw => by (try dsimp only at hw); obtain ⟨hw1, hw2, hw3, hw4⟩ := hw; go_simp) hH ?_
        simp only [List.setIfInBounds_toArray, List.set_cons_zero, List.set_cons_succ]
        refine takeH 4 59 (.pointer (some ⟨bx, 0, none⟩)) rfl (by kernel_rfl) (by kernel_rfl) (by kernel_rfl) (by kernel_rfl) (fun _ _ _ h => h) (by kernel_rfl) (fun w hw => by (try dsimp only at hw); obtain ⟨hw1, hw2, hw3, hw4⟩ := hw; go_simp) hH ?_
        simp only [List.setIfInBounds_toArray, List.set_cons_zero, List.set_cons_succ]
        refine takeH 5 60 (.int .i64 x) rfl (by kernel_rfl) (by kernel_rfl) (by kernel_rfl) (by kernel_rfl) (fun _ _ _ h => h) (by kernel_rfl) (fun w hw => by (try dsimp only at hw); obtain ⟨hw1, hw2, hw3, hw4⟩ := hw; go_simp) hH ?_
        simp only [List.setIfInBounds_toArray, List.set_cons_zero, List.set_cons_succ]
        refine takeH 6 61 (.tuple #[.slice none 0 0, .bool false]) rfl (by kernel_rfl) (by kernel_rfl) (by kernel_rfl) (by kernel_rfl) (fun _ _ _ h => h) (by kernel_rfl) (fun w hw => by (try dsimp only at hw); obtain ⟨hw1, hw2, hw3, hw4⟩ := hw; go_simp) hH ?_
        simp only [List.setIfInBounds_toArray, List.set_cons_zero, List.set_cons_succ]
        refine takeH 7 54 (.tuple #[.slice none 0 0, .bool false]) rfl (by kernel_rfl) (by kernel_rfl) (by kernel_rfl) (by kernel_rfl) (fun _ _ _ h => h) (by kernel_rfl) (fun w hw => by kernel_rfl) hH ?_
        simp only [List.setIfInBounds_toArray, List.set_cons_zero, List.set_cons_succ]
        refine takeH 8 62 (.slice none 0 0) rfl (by kernel_rfl) (by kernel_rfl) (by kernel_rfl) (by kernel_rfl) (fun _ _ _ h => h) (by kernel_rfl) (fun w hw => by (try dsimp only at hw); obtain ⟨hw1, hw2, hw3, hw4⟩ := hw; go_simp) hH ?_
        simp only [List.setIfInBounds_toArray, List.set_cons_zero, List.set_cons_succ]
        refine takeH 9 63 (.bool false) rfl (by kernel_rfl) (by kernel_rfl) (by kernel_rfl) (by kernel_rfl) (fun _ _ _ h => h) (by kernel_rfl) (fun w hw => by (try dsimp only at hw); obtain ⟨hw1, hw2, hw3, hw4⟩ := hw; go_simp) hH ?_
        simp only [List.setIfInBounds_toArray, List.set_cons_zero, List.set_cons_succ]
        refine takeH 10 9 (.slice none 0 0) rfl (by kernel_rfl) (by kernel_rfl) (by kernel_rfl) (by kernel_rfl) (fun _ _ _ h => h) (by kernel_rfl) (fun w hw => by kernel_rfl) hH ?_
        simp only [List.setIfInBounds_toArray, List.set_cons_zero, List.set_cons_succ]
        refine takeH 11 10 (.bool false) rfl (by kernel_rfl) (by kernel_rfl) (by kernel_rfl) (by kernel_rfl) (fun _ _ _ h => h) (by kernel_rfl) (fun w hw => by kernel_rfl) hH ?_
        simp only [List.setIfInBounds_toArray, List.set_cons_zero, List.set_cons_succ]
        refine wpAnyH_done (by kernel_rfl) ?_ _
        dsimp only [Norm]
        clear hH HS0
        gi_wp2_with fail
        first
          | exact HFIN.out
          | (rw [← HGL.out.2.2.2.1]; exact HFIN.out)
      · rw [g3] at hlk
        simp only [Option.getD_some, Option.isSome_some] at hlk
        have HS0 : Hid (W2.drew.cell? ⟨W1.heap.size, 0, none⟩ = some (.pointer (some ⟨b, 0, none⟩)) ∧ W2.drew.cell? ⟨b, 3, none⟩ = some (.map (some m)) ∧ W2.drew.cell? ⟨bx, 0, none⟩ = some (.int .i64 x) ∧ (Instr.lookup 60 (.map (some m)) (.int .i64 x) true).run Tryz.prog W2.drew = .ok (.tuple #[.slice (some ⟨q, 0, none⟩) 1024 1024, .bool true]) W2.drew) := Hid.mk ⟨y1, y2, y3, hlk⟩
        have hqr := HPT2.out.rows _ g4
        have hqb : BAt W2.drew.drew (some ⟨q, A, none⟩) (1024 - A) ((d.drop A).take (1024 - A)) := RAt.bat (W := W2.drew.drew) hqr.1 A (1024 - A) (by have hdl : d.length = 1024 := hqr.2; have := HA.out; omega)
        obtain ⟨W6, hcp, hr6, ho6⟩ := copyc_run W2.drew.drew g F (E - F) (L - F) (rdP off L p k) ((d.drop A).take (1024 - A)) ⟨q, A, none⟩ (1024 - A) (1024 - A) (show RAt W2.drew.drew g (rdP off L p k) from HI2.out.row) hqb (by have := HRL.out; have := HF.out; omega) HEF.out
        have ho2 : Only (fun j => j = g) W2 W6 := ⟨ho6.os, ho6.tape, ho6.output, ho6.size, ho6.block⟩
        have hgw : g < w4.heap.size := HGL.out.1
        have hbg : bx ≠ g := by have := HSZ.out; omega
        have HS2 : Hid (W2.drew.drew.cell? ⟨db, 0, none⟩ = some (.slice (some ⟨g, 0, none⟩) L L) ∧ W2.drew.drew.cell? ⟨bx, 1, none⟩ = some (.int .i64 (A : Int)) ∧ W2.drew.drew.cell? ⟨bx, 2, none⟩ = some (.int .i64 (F : Int)) ∧ W2.drew.drew.cell? ⟨bx, 3, none⟩ = some (.int .i64 (E : Int))) := Hid.mk ⟨by rw [blk_cell (w := W2.drew.drew) HE3.out]; rfl, by rw [blk_cell (w := W2.drew.drew) HBX.out]; rfl, by rw [blk_cell (w := W2.drew.drew) HBX.out]; rfl, by rw [blk_cell (w := W2.drew.drew) HBX.out]; rfl⟩
        have hx6 := (ho2.block bx (lt_of_block HBX.out) hbg).trans HBX.out
        have hd6 := (ho2.block db (lt_of_block (w := W2) HE3.out) (fun e => HGL.out.2.1 e.symm)).trans HE3.out
        have HS6 : Hid (W6.cell? ⟨db, 0, none⟩ = some (.slice (some ⟨g, 0, none⟩) L L) ∧ W6.cell? ⟨bx, 1, none⟩ = some (.int .i64 (A : Int)) ∧ W6.cell? ⟨bx, 2, none⟩ = some (.int .i64 (F : Int)) ∧ W6.cell? ⟨bx, 3, none⟩ = some (.int .i64 (E : Int))) := Hid.mk ⟨by rw [blk_cell hd6]; rfl, by rw [blk_cell hx6]; rfl, by rw [blk_cell hx6]; rfl, by rw [blk_cell hx6]; rfl⟩
        have HCP := Hid.mk hcp
        have HFIN : Hid (W6.heap[w4.heap.size]? = W2.heap[w4.heap.size]? ∧ W6.heap[w4.heap.size + 1]? = W2.heap[w4.heap.size + 1]? ∧ RdI w4 g off L p (k + 1) W6) := Hid.mk (by
          have hs := HSZ.out
          refine ⟨ho2.block _ (by omega) hnk.1, ho2.block _ (by omega) hnk.2, ⟨?_, HI2.out.only.trans ho2 (fun i hi => .inl hi)⟩⟩
          rw [HRD.out, g1]
          rw [List.take_take, Nat.min_eq_left HEF.out] at hr6
          exact hr6)
        clear y1 y2 y3 hlk g1 g2 g3 g4 hnk h3 hqr hqb hcp hr6 ho6 ho2 hgw hbg hx6 hd6
        gi_wp2_with fail
        refine round_region_held (S := fun W => W.cell? ⟨W1.heap.size, 0, none⟩ = some (.pointer (some ⟨b, 0, none⟩)) ∧ W.cell? ⟨b, 3, none⟩ = some (.map (some m)) ∧ W.cell? ⟨bx, 0, none⟩ = some (.int .i64 x) ∧ (Instr.lookup 60 (.map (some m)) (.int .i64 x) true).run Tryz.prog W = .ok (.tuple #[.slice (some ⟨q, 0, none⟩) 1024 1024, .bool true]) W) (by kernel_rfl) (by kernel_rfl) HS0.out (fun hH => ?_)
        change wpAnyH Tryz.prog Region.Mode.any _ _ _ 12 _ _ _
        refine takeH 0 55 (.pointer (some ⟨b, 0, none⟩)) rfl (by kernel_rfl) (by kernel_rfl) (by kernel_rfl) (by kernel_rfl) (fun _ _ _ h => h) (by kernel_rfl) (fun w hw => by (try dsimp only at hw); obtain ⟨hw1, hw2, hw3, hw4⟩ := hw; go_simp) hH ?_
        simp only [List.setIfInBounds_toArray, List.set_cons_zero, List.set_cons_succ]
        refine takeH 1 56 (.pointer (some ⟨b, 0, none⟩)) rfl (by kernel_rfl) (by kernel_rfl) (by kernel_rfl) (by kernel_rfl) (fun _ _ _ h => h) (by kernel_rfl) (fun w hw => by (try dsimp only at hw); obtain ⟨hw1, hw2, hw3, hw4⟩ := hw; go_simp) hH ?_
        simp only [List.setIfInBounds_toArray, List.set_cons_zero, List.set_cons_succ]
        refine takeH 2 57 (.pointer (some ⟨b, 3, none⟩)) rfl (by kernel_rfl) (by kernel_rfl) (by kernel_rfl) (by kernel_rfl) (fun _ _ _ h => h) (by kernel_rfl) (fun w hw => by (try dsimp only at hw); obtain ⟨hw1, hw2, hw3, hw4⟩ := hw; go_simp) hH ?_
        simp only [List.setIfInBounds_toArray, List.set_cons_zero, List.set_cons_succ]
        refine takeH 3 58 (.map (some m)) rfl (by kernel_rfl) (by kernel_rfl) (by kernel_rfl) (by kernel_rfl) (fun _ _ _ h => h) (by kernel_rfl) (fun w hw => by (try dsimp only at hw); obtain ⟨hw1, hw2, hw3, hw4⟩ := hw; go_simp) hH ?_
        simp only [List.setIfInBounds_toArray, List.set_cons_zero, List.set_cons_succ]
        refine takeH 4 59 (.pointer (some ⟨bx, 0, none⟩)) rfl (by kernel_rfl) (by kernel_rfl) (by kernel_rfl) (by kernel_rfl) (fun _ _ _ h => h) (by kernel_rfl) (fun w hw => by (try dsimp only at hw); obtain ⟨hw1, hw2, hw3, hw4⟩ := hw; go_simp) hH ?_
        simp only [List.setIfInBounds_toArray, List.set_cons_zero, List.set_cons_succ]
        refine takeH 5 60 (.int .i64 x) rfl (by kernel_rfl) (by kernel_rfl) (by kernel_rfl) (by kernel_rfl) (fun _ _ _ h => h) (by kernel_rfl) (fun w hw => by (try dsimp only at hw); obtain ⟨hw1, hw2, hw3, hw4⟩ := hw; go_simp) hH ?_
        simp only [List.setIfInBounds_toArray, List.set_cons_zero, List.set_cons_succ]
        refine takeH 6 61 (.tuple #[.slice (some ⟨q, 0, none⟩) 1024 1024, .bool true]) rfl (by kernel_rfl) (by kernel_rfl) (by kernel_rfl) (by kernel_rfl) (fun _ _ _ h => h) (by kernel_rfl) (fun w hw => by (try dsimp only at hw); obtain ⟨hw1, hw2, hw3, hw4⟩ := hw; go_simp) hH ?_
        simp only [List.setIfInBounds_toArray, List.set_cons_zero, List.set_cons_succ]
        refine takeH 7 54 (.tuple #[.slice (some ⟨q, 0, none⟩) 1024 1024, .bool true]) rfl (by kernel_rfl) (by kernel_rfl) (by kernel_rfl) (by kernel_rfl) (fun _ _ _ h => h) (by kernel_rfl) (fun w hw => by kernel_rfl) hH ?_
        simp only [List.setIfInBounds_toArray, List.set_cons_zero, List.set_cons_succ]
        refine takeH 8 62 (.slice (some ⟨q, 0, none⟩) 1024 1024) rfl (by kernel_rfl) (by kernel_rfl) (by kernel_rfl) (by kernel_rfl) (fun _ _ _ h => h) (by kernel_rfl) (fun w hw => by (try dsimp only at hw); obtain ⟨hw1, hw2, hw3, hw4⟩ := hw; go_simp) hH ?_
        simp only [List.setIfInBounds_toArray, List.set_cons_zero, List.set_cons_succ]
        refine takeH 9 63 (.bool true) rfl (by kernel_rfl) (by kernel_rfl) (by kernel_rfl) (by kernel_rfl) (fun _ _ _ h => h) (by kernel_rfl) (fun w hw => by (try dsimp only at hw); obtain ⟨hw1, hw2, hw3, hw4⟩ := hw; go_simp) hH ?_
        simp only [List.setIfInBounds_toArray, List.set_cons_zero, List.set_cons_succ]
        refine takeH 10 9 (.slice (some ⟨q, 0, none⟩) 1024 1024) rfl (by kernel_rfl) (by kernel_rfl) (by kernel_rfl) (by kernel_rfl) (fun _ _ _ h => h) (by kernel_rfl) (fun w hw => by kernel_rfl) hH ?_
        simp only [List.setIfInBounds_toArray, List.set_cons_zero, List.set_cons_succ]
        refine takeH 11 10 (.bool true) rfl (by kernel_rfl) (by kernel_rfl) (by kernel_rfl) (by kernel_rfl) (fun _ _ _ h => h) (by kernel_rfl) (fun w hw => by kernel_rfl) hH ?_
        simp only [List.setIfInBounds_toArray, List.set_cons_zero, List.set_cons_succ]
        refine wpAnyH_done (by kernel_rfl) ?_ _
        dsimp only [Norm]
        clear hH HS0
        gi_wp2_with fail
        refine round_region_held (S := fun W => W.cell? ⟨db, 0, none⟩ = some (.slice (some ⟨g, 0, none⟩) L L) ∧ W.cell? ⟨bx, 1, none⟩ = some (.int .i64 (A : Int)) ∧ W.cell? ⟨bx, 2, none⟩ = some (.int .i64 (F : Int)) ∧ W.cell? ⟨bx, 3, none⟩ = some (.int .i64 (E : Int))) (by kernel_rfl) (by kernel_rfl) HS2.out (fun hH => ?_)
        change wpAnyH Tryz.prog Region.Mode.any _ _ _ 11 _ _ _
        refine takeH 0 65 (.slice (some ⟨g, 0, none⟩) L L) rfl (by kernel_rfl) (by kernel_rfl) (by kernel_rfl) (by kernel_rfl) (fun _ _ _ h => h) (by kernel_rfl) (fun w hw => by (try dsimp only at hw); obtain ⟨hw1, hw2, hw3, hw4⟩ := hw; go_simp) hH ?_
        simp only [List.setIfInBounds_toArray, List.set_cons_zero, List.set_cons_succ]
        refine takeH 1 66 (.pointer (some ⟨bx, 2, none⟩)) rfl (by kernel_rfl) (by kernel_rfl) (by kernel_rfl) (by kernel_rfl) (fun _ _ _ h => h) (by kernel_rfl) (fun w hw => by (try dsimp only at hw); obtain ⟨hw1, hw2, hw3, hw4⟩ := hw; go_simp) hH ?_
        simp only [List.setIfInBounds_toArray, List.set_cons_zero, List.set_cons_succ]
        refine takeH 2 67 (.int .i64 (F : Int)) rfl (by kernel_rfl) (by kernel_rfl) (by kernel_rfl) (by kernel_rfl) (fun _ _ _ h => h) (by kernel_rfl) (fun w hw => by (try dsimp only at hw); obtain ⟨hw1, hw2, hw3, hw4⟩ := hw; go_simp) hH ?_
        simp only [List.setIfInBounds_toArray, List.set_cons_zero, List.set_cons_succ]
        refine takeH 3 68 (.pointer (some ⟨bx, 3, none⟩)) rfl (by kernel_rfl) (by kernel_rfl) (by kernel_rfl) (by kernel_rfl) (fun _ _ _ h => h) (by kernel_rfl) (fun w hw => by (try dsimp only at hw); obtain ⟨hw1, hw2, hw3, hw4⟩ := hw; go_simp) hH ?_
        simp only [List.setIfInBounds_toArray, List.set_cons_zero, List.set_cons_succ]
        refine takeH 4 69 (.int .i64 (E : Int)) rfl (by kernel_rfl) (by kernel_rfl) (by kernel_rfl) (by kernel_rfl) (fun _ _ _ h => h) (by kernel_rfl) (fun w hw => by (try dsimp only at hw); obtain ⟨hw1, hw2, hw3, hw4⟩ := hw; go_simp) hH ?_
        simp only [List.setIfInBounds_toArray, List.set_cons_zero, List.set_cons_succ]
        refine takeH 5 70 (.slice (some ⟨g, F, none⟩) (E - F) (L - F)) rfl (by kernel_rfl) (by kernel_rfl) (by kernel_rfl) (by kernel_rfl) (fun _ _ _ h => h) (by kernel_rfl) (fun w hw => by exact exec_sl3 (s := .tmp 65) (y := .tmp 67) (z := .tmp 69) g L F E HF.out rfl (by kernel_rfl) (by kernel_rfl) (by kernel_rfl)) hH ?_
        simp only [List.setIfInBounds_toArray, List.set_cons_zero, List.set_cons_succ]
        refine takeH 6 71 (.slice (some ⟨q, 0, none⟩) 1024 1024) rfl (by kernel_rfl) (by kernel_rfl) (by kernel_rfl) (by kernel_rfl) (fun _ _ _ h => h) (by kernel_rfl) (fun w hw => by kernel_rfl) hH ?_
        simp only [List.setIfInBounds_toArray, List.set_cons_zero, List.set_cons_succ]
        refine takeH 7 72 (.pointer (some ⟨bx, 1, none⟩)) rfl (by kernel_rfl) (by kernel_rfl) (by kernel_rfl) (by kernel_rfl) (fun _ _ _ h => h) (by kernel_rfl) (fun w hw => by (try dsimp only at hw); obtain ⟨hw1, hw2, hw3, hw4⟩ := hw; go_simp) hH ?_
        simp only [List.setIfInBounds_toArray, List.set_cons_zero, List.set_cons_succ]
        refine takeH 8 73 (.int .i64 (A : Int)) rfl (by kernel_rfl) (by kernel_rfl) (by kernel_rfl) (by kernel_rfl) (fun _ _ _ h => h) (by kernel_rfl) (fun w hw => by (try dsimp only at hw); obtain ⟨hw1, hw2, hw3, hw4⟩ := hw; go_simp) hH ?_
        simp only [List.setIfInBounds_toArray, List.set_cons_zero, List.set_cons_succ]
        refine takeH 9 74 (.slice (some ⟨q, A, none⟩) (1024 - A) (1024 - A)) rfl (by kernel_rfl) (by kernel_rfl) (by kernel_rfl) (by kernel_rfl) (fun _ _ _ h => h) (by kernel_rfl) (fun w hw => by exact exec_sl1 (s := .tmp 71) (y := .tmp 73) q A HA.out rfl (by kernel_rfl) (by kernel_rfl)) hH ?_
        simp only [List.setIfInBounds_toArray, List.set_cons_zero, List.set_cons_succ]
        refine stepH_one 10 (by kernel_rfl) ?_
        refine opH_run 10 75 (.int .i64 ((E - F : Nat) : Int)) W6 rfl (by kernel_rfl) (by kernel_rfl) (exec_cpy (d := .tmp 70) (x := .tmp 74) rfl (by kernel_rfl) (by kernel_rfl) HCP.out) HS6.out ?_
        simp only [List.setIfInBounds_toArray, List.set_cons_zero, List.set_cons_succ]
        refine wpAnyH_done (by kernel_rfl) ?_ _
        dsimp only [Norm]
        clear hH HS2 HS6 HCP
        gi_wp2_with fail
        exact HFIN.out
    case done =>
      rintro D W hD hI hKD
      subst hD
      have h4 := H4.out
      have h3 := HGL.out
      have hL4 := HL4.out
      have hrs2 := (HST.out (w.heap.size + 1) hL4.2.1 (by omega) _ W hI).trans h4.2.1
      have hdb2 := (HST.out db hL4.2.2.2.2.1 (fun e => h3.2.1 e.symm) _ W hI).trans h4.2.2.2.2.1
      have hd1 : W.cell? ⟨db, 0, none⟩ = some (.slice (some ⟨g, 0, none⟩) L L) := by rw [blk_cell hdb2]; rfl
      have g3 : W.heap[w.heap.size + 1]? = _ := hrs2
      have z0 := blk_cell g3 0
      have y0 := blk_free g3 0
      have z1 := blk_cell g3 1
      have y1 := blk_free g3 1
      have z2 := blk_cell g3 2
      have y2 := blk_free g3 2
      have z3 := blk_cell g3 3
      have y3 := blk_free g3 3
      have z4 := blk_cell g3 4
      have y4 := blk_free g3 4
      have z5 := blk_cell g3 5
      have y5 := blk_free g3 5
      have z6 := blk_cell g3 6
      have y6 := blk_free g3 6
      simp at z0 z1 z2 z3 z4 z5 z6
      have HI := Hid.mk hI
      have HKD := Hid.mk hKD
      have HR2 := Hid.mk hrs2
      have HG3 := Hid.mk g3
      clear hI hKD h4 hrs2 hdb2 hI0 hgl h3 hL4 g3
      have HU7 := Hid.mk (box7 HG3.out (.int .i64 0) (.slice (some ⟨g, 0, none⟩) L L) (.int .i64 0) (.int .i64 0) (.int .i64 0) (.slice none 0 0) (.int .i64 0))
      gi_wp2_with fail
      generalize hU : World.setCell (World.setCell (World.setCell (World.setCell (World.setCell (World.setCell (World.setCell W _ _) _ _) _ _) _ _) _ _) _ _) _ _ = U at *
      have hb7 := HU7.out
      clear hU
      have h3 := HGL.out
      have h4 := H4.out
      have hVs : w4.heap.size < W.heap.size := lt_of_block HKD.out
      have hkd : U.heap[w4.heap.size]? = some (.deferred (some [])) := (hb7.2.block _ hVs (fun e => by omega)).trans HKD.out
      have hres : (U.putObj w4.heap.size (.deferred none)).heap[w.heap.size + 1]? = _ := (World.putObj_heap_other (by omega)).trans hb7.1
      have k0 := blk_cell hres 0
      have k1 := blk_cell hres 1
      have k2 := blk_cell hres 2
      have k3 := blk_cell hres 3
      have k4 := blk_cell hres 4
      have k5 := blk_cell hres 5
      have k6 := blk_cell hres 6
      simp at k0 k1 k2 k3 k4 k5 k6
      refine ⟨by simp, .inl ⟨_, _, rfl, run_takeDeferred (by first | exact hkd | rw [← h3.2.2.2.1]; exact hkd), ?_⟩⟩
      try rw [← h3.2.2.2.1]
      have hB1 : Below w.heap.size w W := h4.2.2.2.2.2.2.2.2.trans (HI.out.only.below (Nat.le_of_lt HL4.out.1) (fun k hk => by rw [hk]; omega))
      have hB2 : Below w.heap.size w U := hB1.trans (hb7.2.below hB1.size (fun k hk => by omega))
      refine ⟨.agg #[.int .i64 0, .slice (some ⟨g, 0, none⟩) L L, .int .i64 0, .int .i64 0, .int .i64 0, .slice none 0 0, .int .i64 0], ?_, g, rfl, ⟨hB2.os, hB2.tape, hB2.output, ?_, fun k hk => ?_⟩, ?_, by omega⟩
      · simp [results, Tryz.f26, go_sem, k0, k1, k2, k3, k4, k5, k6]
      · exact Nat.le_trans hB2.size (by simp [World.putObj])
      · rw [World.putObj_heap_other (by have := HL4.out; omega)]
        exact hB2.block k hk
      · have e1 : U.heap[g]? = W.heap[g]? := hb7.2.block g (lt_of_block HI.out.row) (by omega)
        exact (World.putObj_heap_other (by omega)).trans (e1.trans HI.out.row)
    case stop =>
      rintro D W hD hX hKD
      exact hX.elim
  · obtain ⟨db, hdb⟩ : ∃ db, db = V.drew.heap.size := ⟨_, rfl⟩
    obtain ⟨Y, hY⟩ : ∃ Y, Y = V.drew.alloc (.cells #[.slice none 0 0] 28) := ⟨_, rfl⟩
    have hYs : Y.heap.size = db + 1 := by rw [hY, hdb]; simp
    have hYk : ∀ q, q < V.heap.size → Y.heap[q]? = V.heap[q]? := fun q hq => by rw [hY]; exact Below.heap_alloc _ _ _ hq
    have hYd : Y.heap[db]? = some (.cells #[.slice none 0 0] 28 (0, 0)) := by rw [hY, hdb]; exact blk_new _ _
    refine opH_run 12 7 (.pointer (some ⟨db, 0, none⟩)) Y rfl (by kernel_rfl) (by kernel_rfl) (by rw [hdb, hY]; exact exec_allocD (by kernel_rfl)) (HKP.out Y hYk) ?_
    simp only [List.setIfInBounds_toArray, List.set_cons_zero, List.set_cons_succ]
    have e := HMK.out Y
    obtain ⟨g, hg⟩ : ∃ g, g = Y.heap.size := ⟨_, rfl⟩
    obtain ⟨Z, hZ⟩ : ∃ Z, Z = Y.alloc (.cells (By (zeros L)).toArray 5) := ⟨_, rfl⟩
    rw [← hg, ← hZ] at e
    have hZk : ∀ q, q < V.heap.size → Z.heap[q]? = V.heap[q]? := fun q hq => by rw [hZ, Below.heap_alloc _ _ _ (by have : V.drew.heap.size = V.heap.size := rfl; omega)]; exact hYk q hq
    have hZd : Z.heap[db]? = some (.cells #[.slice none 0 0] 28 (0, 0)) := by rw [hZ, Below.heap_alloc _ _ _ (by omega)]; exact hYd
    have hZg : Z.heap[g]? = some (.cells (By (zeros L)).toArray 5 (0, 0)) := by rw [hZ, hg]; exact blk_new _ _
    have hgd : g ≠ db ∧ V.heap.size ≤ g ∧ V.heap.size ≤ db ∧ g < Z.heap.size ∧ db < Z.heap.size := by
      have e1 : V.drew.heap.size = V.heap.size := rfl
      exact ⟨by omega, by omega, by omega, lt_of_block hZg, lt_of_block hZd⟩
    refine stepH_run 11 47 (.slice (some ⟨g, 0, none⟩) L L) Z rfl (by kernel_rfl) (by kernel_rfl) (by kernel_rfl) (exec_mk rfl (by kernel_rfl) (by kernel_rfl) e) (HKP.out Z hZk) ?_
    simp only [List.setIfInBounds_toArray, List.set_cons_zero, List.set_cons_succ]
    have HZO : Hid (Below w.heap.size w Z) := Hid.mk (by rw [hZ, hY]; exact (HBV.out.drew.alloc HBV.out.size _).alloc (by simp; have := HBV.out.size; exact Nat.le_succ_of_le this) _)
    clear hY hYs hYk hYd e hZ hg hdb
    have d0 := blk_cell hZd 0
    have d1 := blk_free hZd 0
    simp at d0
    obtain ⟨V5, hV5⟩ : ∃ V5, V5 = Z.setCell ⟨db, 0, none⟩ (.slice (some ⟨g, 0, none⟩) L L) := ⟨_, rfl⟩
    have hUk : ∀ q, q < V.heap.size → V5.heap[q]? = V.heap[q]? := fun q hq => by rw [hV5]; exact (Below.heap_setCell _ _ _ _ (by show q ≠ db; omega)).trans (hZk q hq)
    have hUg : V5.heap[g]? = some (.cells (By (zeros L)).toArray 5 (0, 0)) := by rw [hV5]; exact (Below.heap_setCell _ _ _ _ hgd.1).trans hZg
    have hUd : V5.heap[db]? = some (.cells #[.slice (some ⟨g, 0, none⟩) L L] 28 (0, 0)) := by rw [hV5, blk_set hZd]; rfl
    have hUs : V5.heap.size = Z.heap.size := by rw [hV5]; simp [World.setCell]
    have hUB : Below w.heap.size w V5 := by rw [hV5]; exact HZO.out.setCell (p := ⟨db, 0, none⟩) (by have := HBV.out.size; show w.heap.size ≤ db; omega) _
    refine stepH_one 13 (by kernel_rfl) ?_
    refine opH_store 13 V5 rfl (by kernel_rfl) (by kernel_rfl) (by rw [hV5]; go_simp) (HKP.out V5 hUk) ?_
    refine wpAnyH_done (by kernel_rfl) ?_ _
    dsimp only [Norm]
    have i3 := blk_cell ((hUk _ (lt_of_block HCL.out)).trans HCL.out) 3
    have i7 := blk_cell hUd 0
    simp at i3 i7
    have HUK := Hid.mk hUk
    have HUG := Hid.mk hUg
    have HUD := Hid.mk hUd
    have HUB := Hid.mk hUB
    have HGD : Hid (g ≠ db ∧ V.heap.size ≤ g ∧ V.heap.size ≤ db ∧ g < V5.heap.size ∧ db < V5.heap.size) := Hid.mk (by rw [hUs]; exact hgd)
    clear hH HS6 hV5 hUk hUg hUd hUs hUB hZk hZg hZd hgd d0 d1 HZO HMK
    gi_wp2_with (refine ⟨trivial, ?_⟩; gi_at_call 49; refine (callsIn_wide.2 (pieces_any _ off L)).mono ?_; rintro e w4 ⟨rfl, hw4⟩; have HW4 := Hid.mk hw4; clear hw4)
    have hs4 : w4.heap.size = V5.heap.size + 2 := by rw [HW4.out]; simp
    have hbl4 : ∀ q, q < V5.heap.size → w4.heap[q]? = V5.heap[q]? := fun q hq => by rw [HW4.out, Below.heap_alloc _ _ _ (by simp; omega), Below.heap_alloc _ _ _ hq]
    have hp2 : w4.heap[V5.heap.size]? = some (.cells #[.int .i64 off] 3 (0, 0)) := by rw [HW4.out, Below.heap_alloc _ _ _ (by simp)]; exact blk_new V5 _
    have hp3 : w4.heap[V5.heap.size + 1]? = some (.cells #[.int .i64 L] 3 (0, 0)) := by
      rw [HW4.out]
      have := blk_new (V5.alloc (.cells #[.int .i64 off] 3)) (.cells #[.int .i64 L] 3)
      rwa [World.size_alloc] at this
    have hB4 : Below w.heap.size w w4 := by rw [HW4.out]; exact (HUB.out.alloc HUB.out.size _).alloc (by simp; have := HUB.out.size; exact Nat.le_succ_of_le this) _
    have hvl : V.heap.size ≤ V5.heap.size := by have := HGD.out; omega
    have hK4 : ∀ q, q < V.heap.size → w4.heap[q]? = V.heap[q]? := fun q hq => (hbl4 q (by omega)).trans (HUK.out q hq)
    have hcl4 := (hK4 _ (lt_of_block HCL.out)).trans HCL.out
    have hrs4 := (hK4 _ (lt_of_block HRS.out)).trans HRS.out
    have hnb4 := (hK4 _ (lt_of_block HNB.out)).trans HNB.out
    have hnd4 := (hK4 _ (lt_of_block HNV.out)).trans HNV.out
    have hdb4 := (hbl4 _ HGD.out.2.2.2.2).trans HUD.out
    have hpt4 : PtAt w4 m r p := HPT.out.kept (fun q hq => hB4.block q (HFL.out q (by simp at hq ⊢; exact .inr hq)))
    have hg4 : RAt w4 g (rdP off L p 0) := (hbl4 _ HGD.out.2.2.2.1).trans HUG.out
    have hI0 : RdI w4 g off L p 0 w4 := ⟨hg4, Only.refl _ _⟩
    have hgl : g < w4.heap.size := lt_of_block hg4
    have HGL : Hid (g < w4.heap.size ∧ g ≠ db ∧ V.heap.size ≤ g ∧ w4.heap.size = V5.heap.size + 2 ∧ w.heap.size + 2 ≤ W1.heap.size ∧ W1.heap.size < V.heap.size ∧ g < V5.heap.size ∧ w.heap.size + 1 < V.heap.size) := Hid.mk ⟨hgl, HGD.out.1, HGD.out.2.1, hs4, HW1.out, by have := HVS.out; omega, HGD.out.2.2.2.1, by have := HVS.out; have := HW1.out; omega⟩
    have HFV : Hid (∀ q ∈ b :: m :: r, q < V.heap.size) := Hid.mk (fun q hq => by have := HFL.out q hq; have := HBV.out.size; omega)
    have HST : Hid (∀ q, q < w4.heap.size → q ≠ g → ∀ k W, RdI w4 g off L p k W → W.heap[q]? = w4.heap[q]?) := Hid.mk (fun q hq hne k W hI => hI.only.block q hq hne)
    have H4 := Hid.mk (And.intro hcl4 (And.intro hrs4 (And.intro hnb4 (And.intro hnd4 (And.intro hdb4 (And.intro hpt4 (And.intro hp2 (And.intro hp3 hB4))))))))
    have HL4 : Hid (w.heap.size < w4.heap.size ∧ w.heap.size + 1 < w4.heap.size ∧ W1.heap.size < w4.heap.size ∧ b < w4.heap.size ∧ db < w4.heap.size ∧ b < V.heap.size) := Hid.mk ⟨lt_of_block hcl4, lt_of_block hrs4, lt_of_block hnb4, lt_of_block hnd4, lt_of_block hdb4, HFV.out b (by simp)⟩
    clear hs4 hbl4 hp2 hp3 hB4 hvl hK4 hcl4 hrs4 hnb4 hnd4 hdb4 hpt4 hg4 i3 i7 HW4 HUK HUG HUD HUB HGD HCL HRS HNB HNV HPV HBV HKP
    refine wpIn_range_kx (gf := 61) (lb := #[.pointer (some ⟨V5.heap.size + 1, 0, none⟩), .pointer (some ⟨V5.heap.size, 0, none⟩)]) rfl (enters_of Tryz.func61 (by kernel_rfl) rfl) (pzN off L) (fun k => #[pzV off L k]) (fun _ => rfl)
      (RdI w4 g off L p) (fun _ => False) (fun k A B row h hg hr => RdI_own hgl k A B row h hg hr) (fun _ _ _ h _ _ => h.elim) hI0 ?hit
      (fun k W => { tmps := #[.pointer (some ⟨t, 0, none⟩), .agg #[.int .i64 kk, .string s, .string s2, .int .i64 off, .int .i64 N, .slice dp dl dc], undef, .pointer (some ⟨w.heap.size, 0, none⟩), .pointer (some ⟨w.heap.size + 1, 0, none⟩), .pointer (some ⟨W1.heap.size, 0, none⟩), .int .i64 0, .pointer (some ⟨db, 0, none⟩), .pointer (some ⟨W.heap.size, 0, none⟩), undef, undef, .pointer (some ⟨w.heap.size, 3, none⟩), .int .i64 off, .bool false, .bool false, .pointer (some ⟨w.heap.size, 4, none⟩), .int .i64 N, .bool false, .bool false, .bool false, .pointer (some ⟨w.heap.size, 4, none⟩), .int .i64 N, .bool false, .bool false, undef, .tuple #[.pointer (some ⟨b, 0, none⟩), .int .i64 0], .pointer (some ⟨t, 0, none⟩), .pointer (some ⟨w.heap.size, 1, none⟩), .string s, .tuple #[.pointer (some ⟨b, 0, none⟩), .int .i64 0], .pointer (some ⟨b, 0, none⟩), .int .i64 0, .int .i64 0, .bool false, undef, undef, .pointer (some ⟨w.heap.size, 4, none⟩), .int .i64 N, .pointer (some ⟨b, 0, none⟩), .pointer (some ⟨b, 0, none⟩), .pointer (some ⟨b, 2, none⟩), .int .i64 z, .pointer (some ⟨w.heap.size, 3, none⟩), .int .i64 off, .int .i64 (z - off), .int .i64 (min N (z - off)), .int .i64 (max 0 (min N (z - off))), .slice (some ⟨g, 0, none⟩) L L, .pointer (some ⟨w.heap.size, 3, none⟩), .int .i64 off, .slice (some ⟨g, 0, none⟩) L L, .int .i64 (L : Int), .func (.func 61) #[] #[.pointer (some ⟨V5.heap.size + 1, 0, none⟩), .pointer (some ⟨V5.heap.size, 0, none⟩)], pzV off L k, undef, undef, undef, undef, undef, undef, undef, undef, undef, undef, undef, undef, undef, undef, undef, undef, undef, undef, undef, undef, undef, undef, undef, undef], defers := [] })
      (fun k W => W.alloc (pzO off L k)) (fun k W => alloc_grown W _) ?assign ?body ?done ?stop
    case hit =>
      intro l' J Jx W hJI hg hY h0'
      have hn := HNUM.out
      have h2 := H4.out
      have h3 := HGL.out
      exact pieces1_in 4 (by omega) l' V5.heap.size off L h0 (by omega) (by omega) (by omega) J Jx W (fun k A hJ => ⟨by rw [blk_cell ((HST.out V5.heap.size (by omega) (by omega) k A (hJI k A hJ)).trans h2.2.2.2.2.2.2.1)]; rfl, by rw [blk_cell ((HST.out (V5.heap.size + 1) (by omega) (by omega) k A (hJI k A hJ)).trans h2.2.2.2.2.2.2.2.1)]; rfl⟩) hY h0'
    case assign =>
      intro l' k W K hK
      unfold pzO at hK
      unfold pzV at hK ⊢
      generalize pzB off k = x1 at *
      generalize pzA off k = x2 at *
      generalize pzF off L k = x3 at *
      generalize pzF off L (k + 1) = x4 at *
      gi_wp2
      exact hK
    case body =>
      intro lp k W W2 hI hk hsz hg2 hs2
      have hn := HNUM.out
      have h4 := H4.out
      have h3 := HGL.out
      obtain ⟨p0, p1, p2, p3, p4, p5, p6, p7, p8, p9⟩ := pz_in h0 (show (0 : Int) ≤ (L : Int) by omega) hk
      have hIa := RdI_own hgl k W (W.alloc (pzO off L k)) none hI (alloc_grown W _) (by simp)
      have hI2 := RdI_own hgl k _ W2 _ hIa hg2 (fun q e => (Option.some.inj e).symm)
      have hbx : W2.heap[W.heap.size]? = some (pzO off L k) := (hg2.block W.heap.size (by simp) (fun e => by have := Option.some.inj e; omega)).trans (blk_new W _)
      have hsz2 : W2.heap.size = W.heap.size + 1 := by rw [hs2]; simp
      obtain ⟨x, hx⟩ : ∃ x, x = pzB off k := ⟨_, rfl⟩
      obtain ⟨A, hA⟩ : ∃ A : Nat, A = (pzA off k).toNat := ⟨_, rfl⟩
      obtain ⟨F, hF⟩ : ∃ F : Nat, F = (pzF off L k).toNat := ⟨_, rfl⟩
      obtain ⟨E, hE⟩ : ∃ E : Nat, E = (pzF off L (k + 1)).toNat := ⟨_, rfl⟩
      have hxb : 0 ≤ x ∧ x < 70000 := by rw [hx, ← p3]; omega
      have HA : Hid (A < 1024) := Hid.mk (by omega)
      have HF : Hid (F < E ∧ E ≤ L ∧ L ≤ 8192) := Hid.mk (by omega)
      have hef : E - F ≤ 1024 - A := by omega
      have hrl : (rdP off L p k).length = L := rd_len h0 (by omega)
      have hbx' : W2.heap[W.heap.size]? = some (.cells #[.int .i64 x, .int .i64 (A : Int), .int .i64 (F : Int), .int .i64 (E : Int)] 85 (0, 0)) := by
        rw [hbx]
        unfold pzO
        rw [← hx, show pzA off k = (A : Int) by omega, show pzF off L k = (F : Int) by omega, show pzF off L (k + 1) = (E : Int) by omega]
      have hrd : rdP off L p (k + 1) = match getP p x with
        | none => rdP off L p k
        | some d => splice (rdP off L p k) F ((d.drop A).take (E - F)) := by
        rw [rdP, ← hx, ← hA, ← hF, show (pzF off L (k + 1) - pzF off L k).toNat = E - F by omega]
      have hB2 : ∀ q, q < w4.heap.size → q ≠ g → W2.drew.heap[q]? = w4.heap[q]? := fun q hq hne => HST.out q hq hne k W2 hI2
      have hL4 := HL4.out
      have e1 := (hB2 W1.heap.size hL4.2.2.1 (by omega)).trans h4.2.2.1
      have e2 := (hB2 b hL4.2.2.2.1 (by omega)).trans h4.2.2.2.1
      have e3 := (hB2 db hL4.2.2.2.2.1 (fun e => h3.2.1 e.symm)).trans h4.2.2.2.2.1
      have hpt2 : PtAt W2.drew m r p := h4.2.2.2.2.2.1.kept (fun q hq => hB2 q (by have := HFV.out q (by simp at hq ⊢; exact .inr hq); omega) (by have := HFV.out q (by simp at hq ⊢; exact .inr hq); omega))
      have y1 : W2.drew.cell? ⟨W1.heap.size, 0, none⟩ = some (.pointer (some ⟨b, 0, none⟩)) := by rw [blk_cell e1]; rfl
      have y2 : W2.drew.cell? ⟨b, 3, none⟩ = some (.map (some m)) := by rw [blk_cell e2]; rfl
      have y3 : W2.drew.cell? ⟨W.heap.size, 0, none⟩ = some (.int .i64 x) := by rw [blk_cell (w := W2.drew) hbx']; rfl
      have HBX := Hid.mk hbx'
      have HRD := Hid.mk hrd
      have HI2 := Hid.mk hI2
      have HE3 := Hid.mk e3
      have HPT2 := Hid.mk hpt2
      have HEF := Hid.mk hef
      have HRL := Hid.mk hrl
      have HSZ : Hid (w4.heap.size + 2 ≤ W.heap.size ∧ W2.heap.size = W.heap.size + 1) := Hid.mk ⟨hsz, hsz2⟩
      have hlk := hpt2.blocks.look2 keyed3 Tryz.underlying60 (zero_bytes W2.drew) (Maps.keyOf_int_mk Tryz.underlying3 (okI_of (a := x) (by omega) (by omega)))
      have hnk : w4.heap.size ≠ g ∧ w4.heap.size + 1 ≠ g := by omega
      unfold pzV
      rw [← hx, show pzA off k = (A : Int) by omega, show pzF off L k = (F : Int) by omega, show pzF off L (k + 1) = (E : Int) by omega]
      clear hIa hI2 hbx hbx' hsz2 hrd hrl hef hB2 e1 e2 e3 hpt2 hg2 hs2 hI hsz hk p0 p1 p2 p3 p4 p5 p6 p7 p8 p9 hx hA hF hE hxb h4 hn hL4 hI0 hgl
      generalize W.heap.size = bx at *
      rcases HPT2.out.get x with ⟨g1, g2, g3⟩ | ⟨d, q, g1, g2, g3, g4⟩
      · rw [g3] at hlk
        simp only [Option.getD_none, Option.isSome_none] at hlk
        have HS0 : Hid (W2.drew.cell? ⟨W1.heap.size, 0, none⟩ = some (.pointer (some ⟨b, 0, none⟩)) ∧ W2.drew.cell? ⟨b, 3, none⟩ = some (.map (some m)) ∧ W2.drew.cell? ⟨bx, 0, none⟩ = some (.int .i64 x) ∧ (Instr.lookup 60 (.map (some m)) (.int .i64 x) true).run Tryz.prog W2.drew = .ok (.tuple #[.slice none 0 0, .bool false]) W2.drew) := Hid.mk ⟨y1, y2, y3, hlk⟩
        have HFIN : Hid (W2.drew.heap[w4.heap.size]? = W2.heap[w4.heap.size]? ∧ W2.drew.heap[w4.heap.size + 1]? = W2.heap[w4.heap.size + 1]? ∧ RdI w4 g off L p (k + 1) W2.drew) := Hid.mk ⟨rfl, rfl, ⟨by rw [HRD.out, g1]; exact HI2.out.row, ⟨HI2.out.only.os, HI2.out.only.tape, HI2.out.only.output, HI2.out.only.size, HI2.out.only.block⟩⟩⟩
        clear y1 y2 y3 hlk g1 g2 g3 hnk h3
        gi_wp2_with fail
        refine round_region_held (S := fun W => W.cell? ⟨W1.heap.size, 0, none⟩ = some (.pointer (some ⟨b, 0, none⟩)) ∧ W.cell? ⟨b, 3, none⟩ = some (.map (some m)) ∧ W.cell? ⟨bx, 0, none⟩ = some (.int .i64 x) ∧ (Instr.lookup 60 (.map (some m)) (.int .i64 x) true).run Tryz.prog W = .ok (.tuple #[.slice none 0 0, .bool false]) W) (by kernel_rfl) (by kernel_rfl) HS0.out (fun hH => ?_)
        change wpAnyH Tryz.prog Region.Mode.any _ _ _ 12 _ _ _
        refine takeH 0 55 (.pointer (some ⟨b, 0, none⟩)) rfl (by kernel_rfl) (by kernel_rfl) (by kernel_rfl) (by kernel_rfl) (fun _ _ _ h => h) (by kernel_rfl) (fun w hw => by (try dsimp only at hw); obtain ⟨hw1, hw2, hw3, hw4⟩ := hw; go_simp) hH ?_
        simp only [List.setIfInBounds_toArray, List.set_cons_zero, List.set_cons_succ]
        refine takeH 1 56 (.pointer (some ⟨b, 0, none⟩)) rfl (by kernel_rfl) (by kernel_rfl) (by kernel_rfl) (by kernel_rfl) (fun _ _ _ h => h) (by kernel_rfl) (fun w hw => by (try dsimp only at hw); obtain ⟨hw1, hw2, hw3, hw4⟩ := hw; go_simp) hH ?_
        simp only [List.setIfInBounds_toArray, List.set_cons_zero, List.set_cons_succ]
        refine takeH 2 57 (.pointer (some ⟨b, 3, none⟩)) rfl (by kernel_rfl) (by kernel_rfl) (by kernel_rfl) (by kernel_rfl) (fun _ _ _ h => h) (by kernel_rfl) (fun w hw => by (try dsimp only at hw); obtain ⟨hw1, hw2, hw3, hw4⟩ := hw; go_simp) hH ?_
        simp only [List.setIfInBounds_toArray, List.set_cons_zero, List.set_cons_succ]
        refine takeH 3 58 (.map (some m)) rfl (by kernel_rfl) (by kernel_rfl) (by kernel_rfl) (by kernel_rfl) (fun _ _ _ h => h) (by kernel_rfl) (fun w hw => by (try dsimp only at hw); obtain ⟨hw1, hw2, hw3, hw4⟩ := hw; go_simp) hH ?_
        simp only [List.setIfInBounds_toArray, List.set_cons_zero, List.set_cons_succ]
        refine takeH 4 59 (.pointer (some ⟨bx, 0, none⟩)) rfl (by kernel_rfl) (by kernel_rfl) (by kernel_rfl) (by kernel_rfl) (fun _ _ _ h => h) (by kernel_rfl) (fun w hw => by (try dsimp only at hw); obtain ⟨hw1, hw2, hw3, hw4⟩ := hw; go_simp) hH ?_
        simp only [List.setIfInBounds_toArray, List.set_cons_zero, List.set_cons_succ]
        refine takeH 5 60 (.int .i64 x) rfl (by kernel_rfl) (by kernel_rfl) (by kernel_rfl) (by kernel_rfl) (fun _ _ _ h => h) (by kernel_rfl) (fun w hw => by (try dsimp only at hw); obtain ⟨hw1, hw2, hw3, hw4⟩ := hw; go_simp) hH ?_
        simp only [List.setIfInBounds_toArray, List.set_cons_zero, List.set_cons_succ]
        refine takeH 6 61 (.tuple #[.slice none 0 0, .bool false]) rfl (by kernel_rfl) (by kernel_rfl) (by kernel_rfl) (by kernel_rfl) (fun _ _ _ h => h) (by kernel_rfl) (fun w hw => by (try dsimp only at hw); obtain ⟨hw1, hw2, hw3, hw4⟩ := hw; go_simp) hH ?_
        simp only [List.setIfInBounds_toArray, List.set_cons_zero, List.set_cons_succ]
        refine takeH 7 54 (.tuple #[.slice none 0 0, .bool false]) rfl (by kernel_rfl) (by kernel_rfl) (by kernel_rfl) (by kernel_rfl) (fun _ _ _ h => h) (by kernel_rfl) (fun w hw => by kernel_rfl) hH ?_
        simp only [List.setIfInBounds_toArray, List.set_cons_zero, List.set_cons_succ]
        refine takeH 8 62 (.slice none 0 0) rfl (by kernel_rfl) (by kernel_rfl) (by kernel_rfl) (by kernel_rfl) (fun _ _ _ h => h) (by kernel_rfl) (fun w hw => by (try dsimp only at hw); obtain ⟨hw1, hw2, hw3, hw4⟩ := hw; go_simp) hH ?_
        simp only [List.setIfInBounds_toArray, List.set_cons_zero, List.set_cons_succ]
        refine takeH 9 63 (.bool false) rfl (by kernel_rfl) (by kernel_rfl) (by kernel_rfl) (by kernel_rfl) (fun _ _ _ h => h) (by kernel_rfl) (fun w hw => by (try dsimp only at hw); obtain ⟨hw1, hw2, hw3, hw4⟩ := hw; go_simp) hH ?_
        simp only [List.setIfInBounds_toArray, List.set_cons_zero, List.set_cons_succ]
        refine takeH 10 9 (.slice none 0 0) rfl (by kernel_rfl) (by kernel_rfl) (by kernel_rfl) (by kernel_rfl) (fun _ _ _ h => h) (by kernel_rfl) (fun w hw => by kernel_rfl) hH ?_
        simp only [List.setIfInBounds_toArray, List.set_cons_zero, List.set_cons_succ]
        refine takeH 11 10 (.bool false) rfl (by kernel_rfl) (by kernel_rfl) (by kernel_rfl) (by kernel_rfl) (fun _ _ _ h => h) (by kernel_rfl) (fun w hw => by kernel_rfl) hH ?_
        simp only [List.setIfInBounds_toArray, List.set_cons_zero, List.set_cons_succ]
        refine wpAnyH_done (by kernel_rfl) ?_ _
        dsimp only [Norm]
        clear hH HS0
        gi_wp2_with fail
        first
          | exact HFIN.out
          | (rw [← HGL.out.2.2.2.1]; exact HFIN.out)
      · rw [g3] at hlk
        simp only [Option.getD_some, Option.isSome_some] at hlk
        have HS0 : Hid (W2.drew.cell? ⟨W1.heap.size, 0, none⟩ = some (.pointer (some ⟨b, 0, none⟩)) ∧ W2.drew.cell? ⟨b, 3, none⟩ = some (.map (some m)) ∧ W2.drew.cell? ⟨bx, 0, none⟩ = some (.int .i64 x) ∧ (Instr.lookup 60 (.map (some m)) (.int .i64 x) true).run Tryz.prog W2.drew = .ok (.tuple #[.slice (some ⟨q, 0, none⟩) 1024 1024, .bool true]) W2.drew) := Hid.mk ⟨y1, y2, y3, hlk⟩
        have hqr := HPT2.out.rows _ g4
        have hqb : BAt W2.drew.drew (some ⟨q, A, none⟩) (1024 - A) ((d.drop A).take (1024 - A)) := RAt.bat (W := W2.drew.drew) hqr.1 A (1024 - A) (by have hdl : d.length = 1024 := hqr.2; have := HA.out; omega)
        obtain ⟨W6, hcp, hr6, ho6⟩ := copyc_run W2.drew.drew g F (E - F) (L - F) (rdP off L p k) ((d.drop A).take (1024 - A)) ⟨q, A, none⟩ (1024 - A) (1024 - A) (show RAt W2.drew.drew g (rdP off L p k) from HI2.out.row) hqb (by have := HRL.out; have := HF.out; omega) HEF.out
        have ho2 : Only (fun j => j = g) W2 W6 := ⟨ho6.os, ho6.tape, ho6.output, ho6.size, ho6.block⟩
        have hgw : g < w4.heap.size := HGL.out.1
        have hbg : bx ≠ g := by have := HSZ.out; omega
        have HS2 : Hid (W2.drew.drew.cell? ⟨db, 0, none⟩ = some (.slice (some ⟨g, 0, none⟩) L L) ∧ W2.drew.drew.cell? ⟨bx, 1, none⟩ = some (.int .i64 (A : Int)) ∧ W2.drew.drew.cell? ⟨bx, 2, none⟩ = some (.int .i64 (F : Int)) ∧ W2.drew.drew.cell? ⟨bx, 3, none⟩ = some (.int .i64 (E : Int))) := Hid.mk ⟨by rw [blk_cell (w := W2.drew.drew) HE3.out]; rfl, by rw [blk_cell (w := W2.drew.drew) HBX.out]; rfl, by rw [blk_cell (w := W2.drew.drew) HBX.out]; rfl, by rw [blk_cell (w := W2.drew.drew) HBX.out]; rfl⟩
        have hx6 := (ho2.block bx (lt_of_block HBX.out) hbg).trans HBX.out
        have hd6 := (ho2.block db (lt_of_block (w := W2) HE3.out) (fun e => HGL.out.2.1 e.symm)).trans HE3.out
        have HS6 : Hid (W6.cell? ⟨db, 0, none⟩ = some (.slice (some ⟨g, 0, none⟩) L L) ∧ W6.cell? ⟨bx, 1, none⟩ = some (.int .i64 (A : Int)) ∧ W6.cell? ⟨bx, 2, none⟩ = some (.int .i64 (F : Int)) ∧ W6.cell? ⟨bx, 3, none⟩ = some (.int .i64 (E : Int))) := Hid.mk ⟨by rw [blk_cell hd6]; rfl, by rw [blk_cell hx6]; rfl, by rw [blk_cell hx6]; rfl, by rw [blk_cell hx6]; rfl⟩
        have HCP := Hid.mk hcp
        have HFIN : Hid (W6.heap[w4.heap.size]? = W2.heap[w4.heap.size]? ∧ W6.heap[w4.heap.size + 1]? = W2.heap[w4.heap.size + 1]? ∧ RdI w4 g off L p (k + 1) W6) := Hid.mk (by
          have hs := HSZ.out
          refine ⟨ho2.block _ (by omega) hnk.1, ho2.block _ (by omega) hnk.2, ⟨?_, HI2.out.only.trans ho2 (fun i hi => .inl hi)⟩⟩
          rw [HRD.out, g1]
          rw [List.take_take, Nat.min_eq_left HEF.out] at hr6
          exact hr6)
        clear y1 y2 y3 hlk g1 g2 g3 g4 hnk h3 hqr hqb hcp hr6 ho6 ho2 hgw hbg hx6 hd6
        gi_wp2_with fail
        refine round_region_held (S := fun W => W.cell? ⟨W1.heap.size, 0, none⟩ = some (.pointer (some ⟨b, 0, none⟩)) ∧ W.cell? ⟨b, 3, none⟩ = some (.map (some m)) ∧ W.cell? ⟨bx, 0, none⟩ = some (.int .i64 x) ∧ (Instr.lookup 60 (.map (some m)) (.int .i64 x) true).run Tryz.prog W = .ok (.tuple #[.slice (some ⟨q, 0, none⟩) 1024 1024, .bool true]) W) (by kernel_rfl) (by kernel_rfl) HS0.out (fun hH => ?_)
        change wpAnyH Tryz.prog Region.Mode.any _ _ _ 12 _ _ _
        refine takeH 0 55 (.pointer (some ⟨b, 0, none⟩)) rfl (by kernel_rfl) (by kernel_rfl) (by kernel_rfl) (by kernel_rfl) (fun _ _ _ h => h) (by kernel_rfl) (fun w hw => by (try dsimp only at hw); obtain ⟨hw1, hw2, hw3, hw4⟩ := hw; go_simp) hH ?_
        simp only [List.setIfInBounds_toArray, List.set_cons_zero, List.set_cons_succ]
        refine takeH 1 56 (.pointer (some ⟨b, 0, none⟩)) rfl (by kernel_rfl) (by kernel_rfl) (by kernel_rfl) (by kernel_rfl) (fun _ _ _ h => h) (by kernel_rfl) (fun w hw => by (try dsimp only at hw); obtain ⟨hw1, hw2, hw3, hw4⟩ := hw; go_simp) hH ?_
        simp only [List.setIfInBounds_toArray, List.set_cons_zero, List.set_cons_succ]
        refine takeH 2 57 (.pointer (some ⟨b, 3, none⟩)) rfl (by kernel_rfl) (by kernel_rfl) (by kernel_rfl) (by kernel_rfl) (fun _ _ _ h => h) (by kernel_rfl) (fun w hw => by (try dsimp only at hw); obtain ⟨hw1, hw2, hw3, hw4⟩ := hw; go_simp) hH ?_
        simp only [List.setIfInBounds_toArray, List.set_cons_zero, List.set_cons_succ]
        refine takeH 3 58 (.map (some m)) rfl (by kernel_rfl) (by kernel_rfl) (by kernel_rfl) (by kernel_rfl) (fun _ _ _ h => h) (by kernel_rfl) (fun w hw => by (try dsimp only at hw); obtain ⟨hw1, hw2, hw3, hw4⟩ := hw; go_simp) hH ?_
        simp only [List.setIfInBounds_toArray, List.set_cons_zero, List.set_cons_succ]
        refine takeH 4 59 (.pointer (some ⟨bx, 0, none⟩)) rfl (by kernel_rfl) (by kernel_rfl) (by kernel_rfl) (by kernel_rfl) (fun _ _ _ h => h) (by kernel_rfl) (fun w hw => by (try dsimp only at hw); obtain ⟨hw1, hw2, hw3, hw4⟩ := hw; go_simp) hH ?_
        simp only [List.setIfInBounds_toArray, List.set_cons_zero, List.set_cons_succ]
        refine takeH 5 60 (.int .i64 x) rfl (by kernel_rfl) (by kernel_rfl) (by kernel_rfl) (by kernel_rfl) (fun _ _ _ h => h) (by kernel_rfl) (fun w hw => by (try dsimp only at hw); obtain ⟨hw1, hw2, hw3, hw4⟩ := hw; go_simp) hH ?_
        simp only [List.setIfInBounds_toArray, List.set_cons_zero, List.set_cons_succ]
        refine takeH 6 61 (.tuple #[.slice (some ⟨q, 0, none⟩) 1024 1024, .bool true]) rfl (by kernel_rfl) (by kernel_rfl) (by kernel_rfl) (by kernel_rfl) (fun _ _ _ h => h) (by kernel_rfl) (fun w hw => by (try dsimp only at hw); obtain ⟨hw1, hw2, hw3, hw4⟩ := hw; go_simp) hH ?_
        simp only [List.setIfInBounds_toArray, List.set_cons_zero, List.set_cons_succ]
        refine takeH 7 54 (.tuple #[.slice (some ⟨q, 0, none⟩) 1024 1024, .bool true]) rfl (by kernel_rfl) (by kernel_rfl) (by kernel_rfl) (by kernel_rfl) (fun _ _ _ h => h) (by kernel_rfl) (fun w hw => by kernel_rfl) hH ?_
        simp only [List.setIfInBounds_toArray, List.set_cons_zero, List.set_cons_succ]
        refine takeH 8 62 (.slice (some ⟨q, 0, none⟩) 1024 1024) rfl (by kernel_rfl) (by kernel_rfl) (by kernel_rfl) (by kernel_rfl) (fun _ _ _ h => h) (by kernel_rfl) (fun w hw => by (try dsimp only at hw); obtain ⟨hw1, hw2, hw3, hw4⟩ := hw; go_simp) hH ?_
        simp only [List.setIfInBounds_toArray, List.set_cons_zero, List.set_cons_succ]
        refine takeH 9 63 (.bool true) rfl (by kernel_rfl) (by kernel_rfl) (by kernel_rfl) (by kernel_rfl) (fun _ _ _ h => h) (by kernel_rfl) (fun w hw => by (try dsimp only at hw); obtain ⟨hw1, hw2, hw3, hw4⟩ := hw; go_simp) hH ?_
        simp only [List.setIfInBounds_toArray, List.set_cons_zero, List.set_cons_succ]
        refine takeH 10 9 (.slice (some ⟨q, 0, none⟩) 1024 1024) rfl (by kernel_rfl) (by kernel_rfl) (by kernel_rfl) (by kernel_rfl) (fun _ _ _ h => h) (by kernel_rfl) (fun w hw => by kernel_rfl) hH ?_
        simp only [List.setIfInBounds_toArray, List.set_cons_zero, List.set_cons_succ]
        refine takeH 11 10 (.bool true) rfl (by kernel_rfl) (by kernel_rfl) (by kernel_rfl) (by kernel_rfl) (fun _ _ _ h => h) (by kernel_rfl) (fun w hw => by kernel_rfl) hH ?_
        simp only [List.setIfInBounds_toArray, List.set_cons_zero, List.set_cons_succ]
        refine wpAnyH_done (by kernel_rfl) ?_ _
        dsimp only [Norm]
        clear hH HS0
        gi_wp2_with fail
        refine round_region_held (S := fun W => W.cell? ⟨db, 0, none⟩ = some (.slice (some ⟨g, 0, none⟩) L L) ∧ W.cell? ⟨bx, 1, none⟩ = some (.int .i64 (A : Int)) ∧ W.cell? ⟨bx, 2, none⟩ = some (.int .i64 (F : Int)) ∧ W.cell? ⟨bx, 3, none⟩ = some (.int .i64 (E : Int))) (by kernel_rfl) (by kernel_rfl) HS2.out (fun hH => ?_)
        change wpAnyH Tryz.prog Region.Mode.any _ _ _ 11 _ _ _
        refine takeH 0 65 (.slice (some ⟨g, 0, none⟩) L L) rfl (by kernel_rfl) (by kernel_rfl) (by kernel_rfl) (by kernel_rfl) (fun _ _ _ h => h) (by kernel_rfl) (fun w hw => by (try dsimp only at hw); obtain ⟨hw1, hw2, hw3, hw4⟩ := hw; go_simp) hH ?_
        simp only [List.setIfInBounds_toArray, List.set_cons_zero, List.set_cons_succ]
        refine takeH 1 66 (.pointer (some ⟨bx, 2, none⟩)) rfl (by kernel_rfl) (by kernel_rfl) (by kernel_rfl) (by kernel_rfl) (fun _ _ _ h => h) (by kernel_rfl) (fun w hw => by (try dsimp only at hw); obtain ⟨hw1, hw2, hw3, hw4⟩ := hw; go_simp) hH ?_
        simp only [List.setIfInBounds_toArray, List.set_cons_zero, List.set_cons_succ]
        refine takeH 2 67 (.int .i64 (F : Int)) rfl (by kernel_rfl) (by kernel_rfl) (by kernel_rfl) (by kernel_rfl) (fun _ _ _ h => h) (by kernel_rfl) (fun w hw => by (try dsimp only at hw); obtain ⟨hw1, hw2, hw3, hw4⟩ := hw; go_simp) hH ?_
        simp only [List.setIfInBounds_toArray, List.set_cons_zero, List.set_cons_succ]
        refine takeH 3 68 (.pointer (some ⟨bx, 3, none⟩)) rfl (by kernel_rfl) (by kernel_rfl) (by kernel_rfl) (by kernel_rfl) (fun _ _ _ h => h) (by kernel_rfl) (fun w hw => by (try dsimp only at hw); obtain ⟨hw1, hw2, hw3, hw4⟩ := hw; go_simp) hH ?_
        simp only [List.setIfInBounds_toArray, List.set_cons_zero, List.set_cons_succ]
        refine takeH 4 69 (.int .i64 (E : Int)) rfl (by kernel_rfl) (by kernel_rfl) (by kernel_rfl) (by kernel_rfl) (fun _ _ _ h => h) (by kernel_rfl) (fun w hw => by (try dsimp only at hw); obtain ⟨hw1, hw2, hw3, hw4⟩ := hw; go_simp) hH ?_
        simp only [List.setIfInBounds_toArray, List.set_cons_zero, List.set_cons_succ]
        refine takeH 5 70 (.slice (some ⟨g, F, none⟩) (E - F) (L - F)) rfl (by kernel_rfl) (by kernel_rfl) (by kernel_rfl) (by kernel_rfl) (fun _ _ _ h => h) (by kernel_rfl) (fun w hw => by exact exec_sl3 (s := .tmp 65) (y := .tmp 67) (z := .tmp 69) g L F E HF.out rfl (by kernel_rfl) (by kernel_rfl) (by kernel_rfl)) hH ?_
        simp only [List.setIfInBounds_toArray, List.set_cons_zero, List.set_cons_succ]
        refine takeH 6 71 (.slice (some ⟨q, 0, none⟩) 1024 1024) rfl (by kernel_rfl) (by kernel_rfl) (by kernel_rfl) (by kernel_rfl) (fun _ _ _ h => h) (by kernel_rfl) (fun w hw => by kernel_rfl) hH ?_
        simp only [List.setIfInBounds_toArray, List.set_cons_zero, List.set_cons_succ]
        refine takeH 7 72 (.pointer (some ⟨bx, 1, none⟩)) rfl (by kernel_rfl) (by kernel_rfl) (by kernel_rfl) (by kernel_rfl) (fun _ _ _ h => h) (by kernel_rfl) (fun w hw => by (try dsimp only at hw); obtain ⟨hw1, hw2, hw3, hw4⟩ := hw; go_simp) hH ?_
        simp only [List.setIfInBounds_toArray, List.set_cons_zero, List.set_cons_succ]
        refine takeH 8 73 (.int .i64 (A : Int)) rfl (by kernel_rfl) (by kernel_rfl) (by kernel_rfl) (by kernel_rfl) (fun _ _ _ h => h) (by kernel_rfl) (fun w hw => by (try dsimp only at hw); obtain ⟨hw1, hw2, hw3, hw4⟩ := hw; go_simp) hH ?_
        simp only [List.setIfInBounds_toArray, List.set_cons_zero, List.set_cons_succ]
        refine takeH 9 74 (.slice (some ⟨q, A, none⟩) (1024 - A) (1024 - A)) rfl (by kernel_rfl) (by kernel_rfl) (by kernel_rfl) (by kernel_rfl) (fun _ _ _ h => h) (by kernel_rfl) (fun w hw => by exact exec_sl1 (s := .tmp 71) (y := .tmp 73) q A HA.out rfl (by kernel_rfl) (by kernel_rfl)) hH ?_
        simp only [List.setIfInBounds_toArray, List.set_cons_zero, List.set_cons_succ]
        refine stepH_one 10 (by kernel_rfl) ?_
        refine opH_run 10 75 (.int .i64 ((E - F : Nat) : Int)) W6 rfl (by kernel_rfl) (by kernel_rfl) (exec_cpy (d := .tmp 70) (x := .tmp 74) rfl (by kernel_rfl) (by kernel_rfl) HCP.out) HS6.out ?_
        simp only [List.setIfInBounds_toArray, List.set_cons_zero, List.set_cons_succ]
        refine wpAnyH_done (by kernel_rfl) ?_ _
        dsimp only [Norm]
        clear hH HS2 HS6 HCP
        gi_wp2_with fail
        exact HFIN.out
    case done =>
      rintro D W hD hI hKD
      subst hD
      have h4 := H4.out
      have h3 := HGL.out
      have hL4 := HL4.out
      have hrs2 := (HST.out (w.heap.size + 1) hL4.2.1 (by omega) _ W hI).trans h4.2.1
      have hdb2 := (HST.out db hL4.2.2.2.2.1 (fun e => h3.2.1 e.symm) _ W hI).trans h4.2.2.2.2.1
      have hd1 : W.cell? ⟨db, 0, none⟩ = some (.slice (some ⟨g, 0, none⟩) L L) := by rw [blk_cell hdb2]; rfl
      have g3 : W.heap[w.heap.size + 1]? = _ := hrs2
      have z0 := blk_cell g3 0
      have y0 := blk_free g3 0
      have z1 := blk_cell g3 1
      have y1 := blk_free g3 1
      have z2 := blk_cell g3 2
      have y2 := blk_free g3 2
      have z3 := blk_cell g3 3
      have y3 := blk_free g3 3
      have z4 := blk_cell g3 4
      have y4 := blk_free g3 4
      have z5 := blk_cell g3 5
      have y5 := blk_free g3 5
      have z6 := blk_cell g3 6
      have y6 := blk_free g3 6
      simp at z0 z1 z2 z3 z4 z5 z6
      have HI := Hid.mk hI
      have HKD := Hid.mk hKD
      have HR2 := Hid.mk hrs2
      have HG3 := Hid.mk g3
      clear hI hKD h4 hrs2 hdb2 hI0 hgl h3 hL4 g3
      have HU7 := Hid.mk (box7 HG3.out (.int .i64 0) (.slice (some ⟨g, 0, none⟩) L L) (.int .i64 0) (.int .i64 0) (.int .i64 0) (.slice none 0 0) (.int .i64 0))
      gi_wp2_with fail
      generalize hU : World.setCell (World.setCell (World.setCell (World.setCell (World.setCell (World.setCell (World.setCell W _ _) _ _) _ _) _ _) _ _) _ _) _ _ = U at *
      have hb7 := HU7.out
      clear hU
      have h3 := HGL.out
      have h4 := H4.out
      have hVs : w4.heap.size < W.heap.size := lt_of_block HKD.out
      have hkd : U.heap[w4.heap.size]? = some (.deferred (some [])) := (hb7.2.block _ hVs (fun e => by omega)).trans HKD.out
      have hres : (U.putObj w4.heap.size (.deferred none)).heap[w.heap.size + 1]? = _ := (World.putObj_heap_other (by omega)).trans hb7.1
      have k0 := blk_cell hres 0
      have k1 := blk_cell hres 1
      have k2 := blk_cell hres 2
      have k3 := blk_cell hres 3
      have k4 := blk_cell hres 4
      have k5 := blk_cell hres 5
      have k6 := blk_cell hres 6
      simp at k0 k1 k2 k3 k4 k5 k6
      refine ⟨by simp, .inl ⟨_, _, rfl, run_takeDeferred (by first | exact hkd | rw [← h3.2.2.2.1]; exact hkd), ?_⟩⟩
      try rw [← h3.2.2.2.1]
      have hB1 : Below w.heap.size w W := h4.2.2.2.2.2.2.2.2.trans (HI.out.only.below (Nat.le_of_lt HL4.out.1) (fun k hk => by rw [hk]; omega))
      have hB2 : Below w.heap.size w U := hB1.trans (hb7.2.below hB1.size (fun k hk => by omega))
      refine ⟨.agg #[.int .i64 0, .slice (some ⟨g, 0, none⟩) L L, .int .i64 0, .int .i64 0, .int .i64 0, .slice none 0 0, .int .i64 0], ?_, g, rfl, ⟨hB2.os, hB2.tape, hB2.output, ?_, fun k hk => ?_⟩, ?_, by omega⟩
      · simp [results, Tryz.f26, go_sem, k0, k1, k2, k3, k4, k5, k6]
      · exact Nat.le_trans hB2.size (by simp [World.putObj])
      · rw [World.putObj_heap_other (by have := HL4.out; omega)]
        exact hB2.block k hk
      · have e1 : U.heap[g]? = W.heap[g]? := hb7.2.block g (lt_of_block HI.out.row) (by omega)
        exact (World.putObj_heap_other (by omega)).trans (e1.trans HI.out.row)
    case stop =>
      rintro D W hD hX hKD
      exact hX.elim
end Go.Proofs.YtehaoeclnmelhacGreat
