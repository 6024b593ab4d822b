/-
  What Log does, for every disk: a row of all sectors that were written, in their order, in memory of its own.
-/
import Derived.Test.YtmbhjheoomlggaaDkRange
namespace Go.Proofs.Ytmbhjheoomlggaa
open Go Go.Proofs Go.RowKit Go.Shelf
namespace Dk
attribute [local go_sem] Oper.semAt_some
/-- Between two rounds of AppendSeq's loop: what has been gathered. -/
def AI (w : World) (base g0 N : Nat) (s : DS) (k : Nat) (W : World) : Prop :=
  ∃ cells, W.heap[w.heap.size]? = some (.cells #[.slice (some ⟨g0, 0, none⟩) k N] 51 (0, 0)) ∧ W.ownsRow 0 81 2 (.slice (some ⟨g0, 0, none⟩) k N) k cells ∧
    LogCells (fun j => base ≤ j ∧ j ≠ g0 ∧ j ≠ w.heap.size) W cells (s.log.take k) ∧ Below base w W
set_option maxRecDepth 100000 in
theorem AI_grown {w : World} {base g0 N : Nat} {s : DS} {k : Nat} {A B : World} {row : Option Nat} (hb : base ≤ w.heap.size) (h : AI w base g0 N s k A) (hg : A.grownBy B row) (hr : ∀ r, row = some r → w.heap.size ≤ r ∧ ∃ o : Obj, A.heap[r]? = some o ∧ o.isCells = false) : AI w base g0 N s k B := by
  obtain ⟨cells, h1, h2, h3, h4⟩ := h
  have same : ∀ j, IsC A j → B.heap[j]? = A.heap[j]? := fun j hj => hg.block j hj.lt (fun e => by
    obtain ⟨o, ho, hc⟩ := (hr j e.symm).2
    obtain ⟨c, t, fr, hk⟩ := hj
    rw [hk] at ho
    cases ho
    cases hc)
  refine ⟨cells, (same _ ⟨_, _, _, h1⟩).trans h1, owns_at h2 (fun j e => same j (owns_isC h2 j e)), ?_, h4.grown hg (Nat.le_trans hb h4.size) (fun k e => by have := (hr k e).1; omega)⟩
  have h3' : LogCells (fun j => (base ≤ j ∧ j ≠ g0 ∧ j ≠ w.heap.size) ∧ IsC A j) A cells (s.log.take k) := h3.mono (fun j hj e => ⟨e, hj⟩)
  exact (h3'.at (fun j e => same j e.2)).mono (fun j _ e => e.1)
/-- What is handed over in round k: entry k of the log, its bytes in a row that is new. -/
def AH (w : World) (base g0 N : Nat) (s : DS) (k : Nat) (B : World) (vs : Array Value) : Prop :=
  ∃ A g cap, AI w base g0 N s k A ∧ A.grownBy B none ∧ A.heap.size ≤ g ∧ B.ownsRow 0 5 1 (.slice (some ⟨g, 0, none⟩) (s.log.getD k (0, [])).2.length cap) (s.log.getD k (0, [])).2.length (By (s.log.getD k (0, [])).2) ∧
    vs = #[.agg #[.int .i64 (s.log.getD k (0, [])).1, .slice (some ⟨g, 0, none⟩) (s.log.getD k (0, [])).2.length cap]]
set_option maxRecDepth 100000 in
theorem append_fin {w A0 A W₂ w3 : World} {base g0 g cp k : Nat} {s : DS} {X1 : Int} {X2 : List Int} {cells : List Value} {o : Obj}
    (hbase : base ≤ w.heap.size) (hg0 : base ≤ g0) (hX : s.log.getD k (0, []) = (X1, X2)) (hk : k < s.log.length) (ho : A.ownsRow 0 5 1 (.slice (some ⟨g, 0, none⟩) X2.length cp) X2.length (By X2)) (hgs : A0.heap.size ≤ g) 
    (hI0 : AI w base g0 s.log.length s k A0) (hsz : W₂.heap.size = A.heap.size + 1) (hbs : ∀ j, j < base → W₂.heap[j]? = A.heap[j]?) (hos : W₂.os = A.os ∧ W₂.tape = A.tape ∧ W₂.output = A.output) (hC : ∀ j, IsC A j → W₂.heap[j]? = A.heap[j]?)
    (h1 : A.heap[w.heap.size]? = some (.cells #[.slice (some ⟨g0, 0, none⟩) k s.log.length] 51 (0, 0))) (h2 : A.ownsRow 0 81 2 (.slice (some ⟨g0, 0, none⟩) k s.log.length) k cells)
    (h3 : LogCells (fun j => base ≤ j ∧ j ≠ g0 ∧ j ≠ w.heap.size) A cells (s.log.take k)) (h4 : Below base w A)
    (k1 : W₂.heap[w.heap.size]? = some (.cells #[.slice (some ⟨g0, 0, none⟩) k s.log.length] 51 (0, 0)))
    (ho3 : w3.ownsRow 0 81 2 (.slice (some ⟨g0, 0, none⟩) (k + 1) s.log.length) (k + 1) (cells ++ [.int .i64 X1, .slice (some ⟨g, 0, none⟩) X2.length cp])) (hg3 : (W₂.alloc o).grownBy w3 (some g0)) :
    KeepsOthers W₂ (w3.setCell ⟨w.heap.size, 0, none⟩ (.slice (some ⟨g0, 0, none⟩) (k + 1) s.log.length)) ∧
      AI w base g0 s.log.length s (k + 1) (w3.setCell ⟨w.heap.size, 0, none⟩ (.slice (some ⟨g0, 0, none⟩) (k + 1) s.log.length)) := by
  have hg0C : IsC A g0 := owns_isC h2 g0 rfl
  have hne : w.heap.size ≠ g0 := by
    intro e
    rcases h2.2 with ⟨h, _⟩ | ⟨g', _, _, hv, _, hh, _⟩
    · simp at h
    · simp at hv
      obtain ⟨rfl, _⟩ := hv
      rw [← e, h1] at hh
      simp at hh
  obtain ⟨cells0, i1, i2, i3, i4⟩ := hI0
  have hgne : g ≠ g0 := by
    intro e
    have := (i2.lt g0 rfl).2
    omega
  have hgw : g ≠ w.heap.size := by
    intro e
    have := lt_of_block i1
    omega
  have hbg : base ≤ g := by have := i4.size; omega
  have step : ∀ j, IsC A j → j ≠ g0 → w3.heap[j]? = A.heap[j]? := fun j hj hn => by
    have hlt := hj.lt
    rw [hg3.block j (by simp; omega) (fun e => hn (by simpa using e)), Below.heap_alloc _ _ _ (by omega), hC j hj]
  have stepS : ∀ j, IsC A j → j ≠ g0 → j ≠ w.heap.size → (w3.setCell ⟨w.heap.size, 0, none⟩ (.slice (some ⟨g0, 0, none⟩) (k + 1) s.log.length)).heap[j]? = A.heap[j]? := fun j hj hn hw => by
    rw [Below.heap_setCell _ _ _ _ hw, step j hj hn]
  have hO : Only (fun j => j = g0 ∨ j = w.heap.size) W₂ (w3.setCell ⟨w.heap.size, 0, none⟩ (.slice (some ⟨g0, 0, none⟩) (k + 1) s.log.length)) :=
    (((Only.refl _ W₂).alloc o).grown hg3 (fun j e => by simp at e; exact .inl (.inl e.symm))).setCell (.inl (.inr rfl)) _
  refine ⟨keeps_of_only hO (fun j e => ?_), cells ++ [.int .i64 X1, .slice (some ⟨g, 0, none⟩) X2.length cp], ?_, ?_, ?_, ?_⟩
  · rcases e with rfl | rfl
    · obtain ⟨c, t, fr, hc⟩ := hg0C
      exact ⟨c, t, fr, (hC _ ⟨c, t, fr, hc⟩).trans hc⟩
    · exact ⟨_, _, _, k1⟩
  · have hb : w3.heap[w.heap.size]? = some (.cells #[.slice (some ⟨g0, 0, none⟩) k s.log.length] 51 (0, 0)) := (step _ ⟨_, _, _, h1⟩ hne).trans h1
    exact blk_set hb
  · exact owns_at ho3 (fun j e => by
      simp [Value.ownBlock] at e
      subst e
      exact Below.heap_setCell _ _ _ _ (fun e => hne e.symm))
  · have ht : s.log.take (k + 1) = s.log.take k ++ [(X1, X2)] := by
      rw [List.take_succ_eq_append_getElem hk]
      have : s.log[k] = (X1, X2) := by
        rw [← hX]
        simp [List.getD, List.getElem?_eq_getElem hk]
      rw [this]
    rw [ht]
    refine LogCells.snoc (x := (X1, X2)) (b := .slice (some ⟨g, 0, none⟩) X2.length cp) (log := s.log.take k) rfl ?_ ?_ ?_ ?_
    · simp
    · refine owns_at ho (fun j e => ?_)
      have hj := owns_isC ho j e
      simp [Value.ownBlock] at e
      subst e
      exact stepS _ hj hgne hgw
    · intro j e
      simp [Value.ownBlock] at e
      subst e
      exact ⟨hbg, hgne, hgw⟩
    · have h3' : LogCells (fun j => (base ≤ j ∧ j ≠ g0 ∧ j ≠ w.heap.size) ∧ IsC A j) A cells (s.log.take k) := h3.mono (fun j hj e => ⟨e, hj⟩)
      exact (h3'.at (fun j e => stepS j e.2 e.1.2.1 e.1.2.2)).mono (fun j _ e => e.1)
  · have hB2 : Below base A W₂ := ⟨hos.1, hos.2.1, hos.2.2, by omega, hbs⟩
    exact ((h4.trans hB2).trans (hO.below (by have := h4.size; omega) (fun j e => by rcases e with rfl | rfl <;> omega)))
set_option maxRecDepth 100000 in
set_option maxHeartbeats 4000000 in
theorem appendSeq_log (F : Nat → Prop) (w : World) (base d : Nat) (s : DS) (B1 g0 : Nat) (hDk : DiskAt F w d s) (hF : ∀ k, F k → k < base) (hbase : base ≤ w.heap.size) (hg0 : base ≤ g0)
    (hB1 : w.heap[B1]? = some (.cells #[.pointer (some ⟨d, 0, none⟩)] 24 (0, 0)))
    (hlog : s.log.length ≤ 1000000) (hdat : ∀ k, k < s.log.length → (s.log.getD k (0, [])).2.length ≤ 1000000)
    (hown : w.ownsRow 0 81 2 (.slice (some ⟨g0, 0, none⟩) 0 s.log.length) 0 []) :
    Calls Try.prog 38 #[.slice (some ⟨g0, 0, none⟩) 0 s.log.length, .func (.func 48) #[] #[.pointer (some ⟨B1, 0, none⟩)]] w fun e w' =>
      ∃ cells, e = .returned (.slice (some ⟨g0, 0, none⟩) s.log.length s.log.length) ∧ w'.ownsRow 0 81 2 (.slice (some ⟨g0, 0, none⟩) s.log.length s.log.length) s.log.length cells ∧
        LogCells (fun j => base ≤ j ∧ j ≠ g0) w' cells s.log ∧ Below base w w' := by
  obtain ⟨i0, hi, hz0, hz1, hz2⟩ := info41p
  have hB0 : Below base w (w.alloc (.cells #[.slice (some ⟨g0, 0, none⟩) 0 s.log.length] 51)) := (Below.refl base w).alloc hbase _
  have q0 := blk_new w (.cells #[.slice (some ⟨g0, 0, none⟩) 0 s.log.length] 51)
  have hs0 : (w.alloc (.cells #[.slice (some ⟨g0, 0, none⟩) 0 s.log.length] 51)).heap.size = w.heap.size + 1 := by simp
  have hg1 : w.grownBy (w.alloc (.cells #[.slice (some ⟨g0, 0, none⟩) 0 s.log.length] 51)) none := World.grownBy_alloc _ _ _
  have hown1 := owns_at (w' := w.alloc (.cells #[.slice (some ⟨g0, 0, none⟩) 0 s.log.length] 51)) hown (fun k e => Below.heap_alloc _ _ _ (hown.lt k e).2)
  refine (callsIn_wide (n := 5)).1 ?_
  refine callsIn_of_wp_marks Try.func38 rfl trivial ?_ rfl
  simp only [Try.ntmps38, List.size_toArray, List.length_cons, List.length_nil, Nat.reduceAdd, Nat.reduceSub, Array.replicate_succ, Array.replicate_zero, List.push_toArray, List.append_toArray, List.nil_append, List.cons_append]
  gi_wp2
  generalize w.alloc (.cells #[.slice (some ⟨g0, 0, none⟩) 0 s.log.length] 51) = W0 at *
  refine wpIn_range_all (gf := 48) (lb := #[.pointer (some ⟨B1, 0, none⟩)]) rfl (enters_of Try.func48 (by kernel_rfl) rfl) s.log.length
    (AI w base g0 s.log.length s) (fun k A B row h hg hr => AI_grown hbase h hg (fun r e => ⟨by have := (hr r e).1; omega, (hr r e).2⟩)) ⟨[], q0, hown1, by simp [LogCells], hB0⟩
    (AH w base g0 s.log.length s) (fun k A vs h => by obtain ⟨_, _, _, _, _, _, _, rfl⟩ := h; rfl) ?hit ?round ?done
  case hit =>
    intro l J W hJI hJg hgW hY hJ0
    have same : ∀ j, j < w.heap.size → W.heap[j]? = w.heap[j]? := fun j hj => (hgW.block j (by omega) (by simp)).trans (hg1.block j hj (by simp))
    have hD1 : DiskAt F W d s := (hDk.mono (H := fun k => F k ∧ k < w.heap.size) (fun k hk e => ⟨e, hk.lt⟩)).at (fun k e => same k e.2) |>.mono (fun k _ e => e.1)
    exact written1_in _ (by omega) l B1 d s F hlog hdat J W hD1 ((same _ (lt_of_block hB1)).trans hB1) hJg
      (fun k A hA b hb => by
        obtain ⟨_, _, _, _, h4⟩ := hJI k A hA
        rw [h4.block b (hF b hb), same b (by have := hF b hb; omega)])
      (fun k A B g cap hA hg hs hk ho => hY k B _ (hJg k A B hA hg) hk ⟨A, g, cap, hJI k A hA, hg, hs, ho, rfl⟩) hJ0
  case round =>
    rintro l k A vs hl hI hk ⟨A0, g, cp, hI0, hgA, hgs, ho, rfl⟩
    generalize hX : s.log.getD k (0, []) = X at *
    obtain ⟨X1, X2⟩ := X
    have HX := Hid.mk hX
    have HI := Hid.mk hI
    have HI0 := Hid.mk hI0
    have HO := Hid.mk ho
    clear hI hI0 hX ho
    dsimp only at *
    gi_wp2
    refine ⟨KeepsOthers.alloc _ _, ?_⟩
    intro o W₂ hlo hoc hsz hsame hos htp hout
    -- the boxes in W₂
    obtain ⟨cells, h1, h2, h3, h4⟩ := HI.out
    have hlA : A.heap.size ≠ l := by
      intro e
      rw [← e, blk_new] at hlo
      cases hlo
      cases hoc
    have hC : ∀ j, IsC A j → W₂.heap[j]? = A.heap[j]? := by
      intro j hj
      have hjl : j ≠ l := by
        intro e
        obtain ⟨c, t, fr, hc⟩ := hj
        rw [← e, Below.heap_alloc _ _ _ (lt_of_block hc), hc] at hlo
        cases hlo
        cases hoc
      rw [hsame j hjl, Below.heap_alloc _ _ _ hj.lt]
    have k1 : W₂.heap[w.heap.size]? = some (.cells #[.slice (some ⟨g0, 0, none⟩) k s.log.length] 51 (0, 0)) := (hC _ ⟨_, _, _, h1⟩).trans h1
    have k2 : W₂.heap[A.heap.size]? = some (.cells #[.int .i64 X1, .slice (some ⟨g, 0, none⟩) X2.length cp] 81 (0, 0)) := (hsame _ hlA).trans (blk_new A _)
    have c1 := blk_cell k1 0
    have c2 := blk_cell k2 0
    have c3 := blk_cell k2 1
    simp at c1 c2 c3
    have HBS : Hid (∀ j, j < base → W₂.heap[j]? = A.heap[j]?) := fun j hj => by rw [hsame j (by omega), Below.heap_alloc _ _ _ (by have := h4.size; omega)]
    have HOS : Hid (W₂.os = A.os ∧ W₂.tape = A.tape ∧ W₂.output = A.output) := ⟨hos, htp, hout⟩
    have HSZ : Hid (W₂.heap.size = A.heap.size + 1) := by rw [hsz]; simp [Hid]
    have hW2 : W₂.ownsRow 0 81 2 (.slice (some ⟨g0, 0, none⟩) k s.log.length) k cells := owns_at h2 (fun j e => hC j (owns_isC h2 j e))
    have HW2 := Hid.mk hW2
    have HK1 := Hid.mk k1
    have H1 := Hid.mk h1
    have H2 := Hid.mk h2
    have H3 := Hid.mk h3
    have H4 := Hid.mk h4
    have HCC := Hid.mk hC
    clear h1 h2 h3 h4 hC k1 k2 hW2 hlo hsame hsz hos htp hout
    have hfs : ∀ w3 : World, (W₂.alloc (.cells #[.int .i64 X1, .slice (some ⟨g, 0, none⟩) X2.length cp] 81)).grownBy w3 (some g0) → w3.cell? ⟨w.heap.size, 0, none⟩ = some (.slice (some ⟨g0, 0, none⟩) k s.log.length) ∧ w3.frozen? ⟨w.heap.size, 0, none⟩ = false := by
      intro w3 hgr
      have hne : w.heap.size ≠ g0 := by
        intro e
        have hh := HW2.out.2
        rcases hh with ⟨h, _⟩ | ⟨g', _, _, hv, _, hh, _⟩
        · simp at h
        · simp at hv
          obtain ⟨rfl, rfl⟩ := hv
          rw [← e, HK1.out] at hh
          simp at hh
      have hb := (hgr.block w.heap.size (by have := lt_of_block HK1.out; simp; omega) (fun e => hne (by simpa using e))).trans ((Below.heap_alloc _ _ _ (lt_of_block HK1.out)).trans HK1.out)
      exact ⟨by rw [blk_cell hb]; rfl, blk_free hb 0⟩
    have HFS := Hid.mk hfs
    clear hfs
    gi_wp2_with (gi_at_builtin; refine wpListIn_append_fits _ rfl (.tmp 8) (.tmp 10) 51 rfl 0 81 i0 2 Try.underlying51 hi hz1 g0 k s.log.length cells rfl (HW2.out.alloc _) ⟨W₂.heap.size, 0, none⟩ 1 1 [.int .i64 X1, .slice (some ⟨g, 0, none⟩) X2.length cp] rfl rfl (pair_cells _ _ _ _) (pair_one _ _ _ _) (by omega) ?_; intro w3 hown3 hgr3; have hq1 := (HFS.out w3 hgr3).1; have hq2 := (HFS.out w3 hgr3).2; have HO3 := Hid.mk hown3; have HG3 := Hid.mk hgr3; clear hown3 hgr3)
    exact append_fin hbase hg0 HX.out hk HO.out hgs HI0.out HSZ.out HBS.out HOS.out HCC.out H1.out H2.out H3.out H4.out HK1.out HO3.out HG3.out
  case done =>
    rintro D W hD ⟨cells, h1, h2, h3, h4⟩ hK
    have hc := blk_cell h1 0
    simp at hc
    gi_wp2
    refine ⟨by simp, .inl ⟨_, _, rfl, run_takeDeferred hK, ?_⟩⟩
    have hnc : ∀ r, some D = some r → ∃ o : Obj, W.heap[r]? = some o ∧ o.isCells = false := fun r e => by cases e; exact ⟨_, hK, rfl⟩
    obtain ⟨cells2, g1, g2, g3, g4⟩ := AI_grown hbase (B := W.putObj D (.deferred none)) ⟨cells, h1, h2, h3, h4⟩ (grownBy_putObj' _ D _) (fun r e => ⟨by cases e; omega, hnc r e⟩)
    rw [List.take_length] at g3
    exact ⟨_, results_tmp rfl _ _ _, cells2, rfl, g2, g3.mono (fun j _ e => ⟨e.1, e.2.1⟩), g4⟩
set_option maxRecDepth 100000 in
set_option maxHeartbeats 400000 in
theorem written_any (w : World) (d : Nat) :
    Calls Try.prog 39 #[.pointer (some ⟨d, 0, none⟩)] w fun e w' => e = .returned (.func (.func 48) #[] #[.pointer (some ⟨w.heap.size, 0, none⟩)]) ∧ w' = w.alloc (.cells #[.pointer (some ⟨d, 0, none⟩)] 24) := by
  go_enter Try.func39, Try.ntmps39
  go_wp2
  go_ret
  exact ⟨rfl, rfl⟩
set_option maxRecDepth 100000 in
set_option maxHeartbeats 2000000 in
theorem log_any (F : Nat → Prop) (w : World) (d : Nat) (s : DS) (hDk : DiskAt F w d s) (hlog : s.log.length ≤ 1000000) (hdat : ∀ k, k < s.log.length → (s.log.getD k (0, [])).2.length ≤ 1000000) :
    Calls Try.prog 26 #[.pointer (some ⟨d, 0, none⟩)] w fun e w' => ∃ g0 cells, e = .returned (.slice (some ⟨g0, 0, none⟩) s.log.length s.log.length) ∧
      w'.ownsRow 0 81 2 (.slice (some ⟨g0, 0, none⟩) s.log.length s.log.length) s.log.length cells ∧ w.heap.size ≤ g0 ∧ LogCells (fun j => w.heap.size ≤ j ∧ j ≠ g0) w' cells s.log ∧ Below w.heap.size w w' := by
  obtain ⟨i0, hi, hz0, hz1, hz2⟩ := info41p
  obtain ⟨ao, cap, hlv, hcap, _⟩ := hDk.read
  obtain ⟨mk, hmk⟩ : ∃ mk : Array Value, mk = madeCells (Value.agg #[.int .i64 0, .slice none 0 0]).cells (s.log.length * i0.size) := ⟨_, rfl⟩
  have hmks : mk.size = s.log.length * 2 := by rw [hmk, size_madeCells, hz1]
  have hrun : ∀ W : World, (Instr.makeSlice 51 (.int .i64 0) (.int .i64 (s.log.length : Int))).run Try.prog W = .ok (.slice (some ⟨W.heap.size, 0, none⟩) 0 s.log.length) (W.alloc (.cells mk 81)) := fun W => by
    rw [run_make (P := Try.prog) W 51 81 i0 _ Try.underlying51 hi hz0 .i64 .i64 0 _ (by omega) (by omega) (by rw [hz2]; omega) (by omega), hmk]
    simp
  have core : ∀ (W : World) (g0 B1 : Nat), Below w.heap.size w W → w.heap.size ≤ g0 → W.heap[g0]? = some (.cells mk 81 (0, 0)) → W.heap[B1]? = some (.cells #[.pointer (some ⟨d, 0, none⟩)] 24 (0, 0)) →
      Calls Try.prog 38 #[.slice (some ⟨g0, 0, none⟩) 0 s.log.length, .func (.func 48) #[] #[.pointer (some ⟨B1, 0, none⟩)]] W fun e w' => ∃ g0 cells, e = .returned (.slice (some ⟨g0, 0, none⟩) s.log.length s.log.length) ∧
      w'.ownsRow 0 81 2 (.slice (some ⟨g0, 0, none⟩) s.log.length s.log.length) s.log.length cells ∧ w.heap.size ≤ g0 ∧ LogCells (fun j => w.heap.size ≤ j ∧ j ≠ g0) w' cells s.log ∧ Below w.heap.size w w' := by
    intro W g0 B1 hW hg0 hgb hB1
    have hD1 : DiskAt (fun k => F k ∧ k < w.heap.size) W d s := (hDk.mono (H := fun k => F k ∧ k < w.heap.size) (fun k hk e => ⟨e, hk.lt⟩)).at (fun k e => hW.block k e.2)
    refine (appendSeq_log (fun k => F k ∧ k < w.heap.size) W w.heap.size d s B1 g0 hD1 (fun k e => e.2) hW.size hg0 hB1 hlog hdat ⟨by simp, .inr ⟨g0, _, mk, rfl, Nat.zero_le _, hgb, Nat.zero_le _, by unfold maxLen; omega, hmks, by simp⟩⟩).mono ?_
    rintro e w' ⟨cells, rfl, h1, h2, h3⟩
    exact ⟨g0, cells, rfl, h1, hg0, h2, hW.trans h3⟩
  have b1 := blk_new w (.cells mk 81)
  have b2 := blk_new (w.alloc (.cells mk 81)) (.cells #[.pointer (some ⟨d, 0, none⟩)] 24)
  have b3 := blk_new w (.cells #[.pointer (some ⟨d, 0, none⟩)] 24)
  have b4 := blk_new (w.alloc (.cells #[.pointer (some ⟨d, 0, none⟩)] 24)) (.cells mk 81)
  rw [World.size_alloc] at b2 b4
  have A1 := Hid.mk (core ((w.alloc (.cells mk 81)).alloc (.cells #[.pointer (some ⟨d, 0, none⟩)] 24)).drew w.heap.size (w.heap.size + 1) ((((Below.refl _ w).alloc (Nat.le_refl _) _).alloc (by simp) _).drew) (Nat.le_refl _)
    ((Below.heap_alloc (w.alloc (.cells mk 81)) _ w.heap.size (by simp)).trans b1) b2)
  have A2 := Hid.mk (core ((w.alloc (.cells #[.pointer (some ⟨d, 0, none⟩)] 24)).alloc (.cells mk 81)).drew (w.heap.size + 1) w.heap.size ((((Below.refl _ w).alloc (Nat.le_refl _) _).alloc (by simp) _).drew) (by omega)
    b4 ((Below.heap_alloc (w.alloc (.cells #[.pointer (some ⟨d, 0, none⟩)] 24)) _ w.heap.size (by simp)).trans b3))
  clear b1 b2 b3 b4 core hmk hmks hDk hdat hcap hi hz0 hz1 hz2
  have hlv2 : ∀ o, (w.alloc o).cell? ⟨d, 1, none⟩ = some (.slice ao s.log.length cap) := fun o => Lib.cell?_alloc_some o hlv
  go_enter Try.func26, Try.ntmps26
  go_wp2
  go_region_law (first
    | (refine step_call1 rfl 39 (.tmp 9) #[24] rfl (enters_of Try.func39 (by kernel_rfl) rfl) (.pointer (some ⟨d, 0, none⟩)) rfl (written_any _ d) ?_; rintro e w1 ⟨rfl, hw1⟩; subst hw1; refine ⟨_, rfl, ?_⟩)
    | (refine step_call2 rfl 38 (.tmp 8) (.tmp 10) #[51, 83] rfl (enters_of Try.func38 (by kernel_rfl) rfl) (.slice (some ⟨w.heap.size, 0, none⟩) 0 s.log.length) (.func (.func 48) #[] #[.pointer (some ⟨w.heap.size + 1, 0, none⟩)]) rfl rfl A1.out ?_; rintro e w1 ⟨g0, cells, rfl, r1, r2, r3, r4⟩; refine ⟨_, rfl, ?_⟩; have R1 := Hid.mk r1; have R3 := Hid.mk r3; have R4 := Hid.mk r4; clear r1 r3 r4)
    | (refine step_call2 rfl 38 (.tmp 8) (.tmp 10) #[51, 83] rfl (enters_of Try.func38 (by kernel_rfl) rfl) (.slice (some ⟨w.heap.size + 1, 0, none⟩) 0 s.log.length) (.func (.func 48) #[] #[.pointer (some ⟨w.heap.size, 0, none⟩)]) rfl rfl A2.out ?_; rintro e w1 ⟨g0, cells, rfl, r1, r2, r3, r4⟩; refine ⟨_, rfl, ?_⟩; have R1 := Hid.mk r1; have R3 := Hid.mk r3; have R4 := Hid.mk r4; clear r1 r3 r4))
  all_goals go_wp2
  all_goals go_ret
  all_goals exact ⟨g0, cells, rfl, R1.out, r2, R3.out, R4.out⟩
end Dk
end Go.Proofs.Ytmbhjheoomlggaa
