/-
  The maps of a table are written: start, grant, drop.
-/
import Derived.Test.YtoediflikoedaaaLkPush
namespace Go.Proofs.Ytoediflikoedaaa
open Go Go.Proofs Go.RowKit Go.Shelf
open Go.ChangeMaps (setBlock)
attribute [local go_sem] Oper.semAt_some
theorem intF_map {α : Type} (g : α → Nat) (f : Int → Option α) (l : Lit) : intF (fun x => ptV (g x)) f l = intF ptV (fun j => (f j).map g) l := by
  unfold intF
  split <;> simp [Function.comp_def]
section
variable {F : Nat → Prop} {W : World} {t : Nat} {D : Td}
theorem TbAt.hput (h : TbAt F W t D) {hb : Nat} (hh : D.hm = some hb) (hn : D.nh ≤ 1000000) {i : Int} (hw : (Lit.int .i64 i).wf = true) (hi : D.held i = none) (b : Nat) :
    ∃ o, (Instr.mapUpdate 50 (.map (some hb)) (.int .i64 i) (ptV b)).run Try.prog W = .ok () (setBlock W hb o) ∧ MAt (setBlock W hb o) 3 hb (D.nh + 1) (intF ptV (updC (fun j => (D.held j).map (fun z => z.b)) i (some b))) := by
  have hm := h.hmapAt
  rw [hh] at hm
  obtain ⟨o, h1, h2⟩ := MAt.put (show MAt W 3 hb D.nh _ from hm) keyed3 Try.underlying50 (by unfold maxLen; omega) (key_int hw) (val := ptV b)
  rw [intF_int, hi] at h2
  exact ⟨o, h1, MAt.say h2 (fun _ l _ => by rw [intF_upd, funext (intF_map (fun z : Hx => z.b) D.held)]; rfl)⟩
theorem TbAt.hdel (h : TbAt F W t D) {hb : Nat} (hh : D.hm = some hb) {i : Int} (hw : (Lit.int .i64 i).wf = true) {x : Hx} (hi : D.held i = some x) (ty : TypeId) :
    ∃ o, (Builtin.delete_ #[50, 3] ty #[.map (some hb), .int .i64 i]).run Try.prog W = .ok (.tuple #[]) (setBlock W hb o) ∧ MAt (setBlock W hb o) 3 hb (D.nh - 1) (intF ptV (updC (fun j => (D.held j).map (fun z => z.b)) i none)) := by
  have hm := h.hmapAt
  rw [hh] at hm
  obtain ⟨o, h1, h2⟩ := MAt.del (show MAt W 3 hb D.nh _ from hm) keyed3 Try.underlying50 (key_int hw) ty
  rw [intF_int, hi] at h2
  exact ⟨o, h1, MAt.say h2 (fun _ l _ => by rw [intF_upd, funext (intF_map (fun z : Hx => z.b) D.held)]; rfl)⟩
theorem TbAt.rput (h : TbAt F W t D) {hb : Nat} (hh : D.rm = some hb) (hn : D.nr ≤ 1000000) {i : Int} (hw : (Lit.int .i64 i).wf = true) (hi : D.rows i = none) (b : Nat) :
    ∃ o, (Instr.mapUpdate 51 (.map (some hb)) (.int .i64 i) (ptV b)).run Try.prog W = .ok () (setBlock W hb o) ∧ MAt (setBlock W hb o) 3 hb (D.nr + 1) (intF ptV (updC (fun j => (D.rows j).map (fun z => z.b)) i (some b))) := by
  have hm := h.rmapAt
  rw [hh] at hm
  obtain ⟨o, h1, h2⟩ := MAt.put (show MAt W 3 hb D.nr _ from hm) keyed3 Try.underlying51 (by unfold maxLen; omega) (key_int hw) (val := ptV b)
  rw [intF_int, hi] at h2
  exact ⟨o, h1, MAt.say h2 (fun _ l _ => by rw [intF_upd, funext (intF_map (fun z : Rx => z.b) D.rows)]; rfl)⟩
theorem TbAt.rdel (h : TbAt F W t D) {hb : Nat} (hh : D.rm = some hb) {i : Int} (hw : (Lit.int .i64 i).wf = true) {x : Rx} (hi : D.rows i = some x) (ty : TypeId) :
    ∃ o, (Builtin.delete_ #[51, 3] ty #[.map (some hb), .int .i64 i]).run Try.prog W = .ok (.tuple #[]) (setBlock W hb o) ∧ MAt (setBlock W hb o) 3 hb (D.nr - 1) (intF ptV (updC (fun j => (D.rows j).map (fun z => z.b)) i none)) := by
  have hm := h.rmapAt
  rw [hh] at hm
  obtain ⟨o, h1, h2⟩ := MAt.del (show MAt W 3 hb D.nr _ from hm) keyed3 Try.underlying51 (key_int hw) ty
  rw [intF_int, hi] at h2
  exact ⟨o, h1, MAt.say h2 (fun _ l _ => by rw [intF_upd, funext (intF_map (fun z : Rx => z.b) D.rows)]; rfl)⟩
theorem TbAt.wput (h : TbAt F W t D) {hb : Nat} (hh : D.wm = some hb) (hn : D.nw ≤ 1000000) {i : Int} (hw : (Lit.int .i64 i).wf = true) (hi : D.waits i = none) (l : Lk) :
    ∃ o, (Instr.mapUpdate 52 (.map (some hb)) (.int .i64 i) (lkV l)).run Try.prog W = .ok () (setBlock W hb o) ∧ MAt (setBlock W hb o) 3 hb (D.nw + 1) (intF lkV (updC D.waits i (some l))) := by
  have hm := h.wmapAt
  rw [hh] at hm
  obtain ⟨o, h1, h2⟩ := MAt.put (show MAt W 3 hb D.nw _ from hm) keyed3 Try.underlying52 (by unfold maxLen; omega) (key_int hw) (val := lkV l)
  rw [intF_int, hi] at h2
  exact ⟨o, h1, MAt.say h2 (fun _ l _ => by rw [intF_upd]; rfl)⟩
theorem TbAt.wdel (h : TbAt F W t D) {hb : Nat} (hh : D.wm = some hb) {i : Int} (hw : (Lit.int .i64 i).wf = true) (ty : TypeId) :
    ∃ o, (Builtin.delete_ #[52, 3] ty #[.map (some hb), .int .i64 i]).run Try.prog W = .ok (.tuple #[]) (setBlock W hb o) ∧ MAt (setBlock W hb o) 3 hb (if (D.waits i).isSome = true then D.nw - 1 else D.nw) (intF lkV (updC D.waits i none)) := by
  have hm := h.wmapAt
  rw [hh] at hm
  obtain ⟨o, h1, h2⟩ := MAt.del (show MAt W 3 hb D.nw _ from hm) keyed3 Try.underlying52 (key_int hw) ty
  refine ⟨o, h1, ?_⟩
  have e : (intF lkV D.waits (.int .i64 i)).isSome = (D.waits i).isSome := by rw [intF_int]; cases D.waits i <;> rfl
  rw [e] at h2
  exact MAt.say h2 (fun _ l _ => by rw [intF_upd]; rfl)
end
/-- Its maps are made. -/
def Td.Made (D : Td) : Prop := ∃ a b c, D.hm = some a ∧ D.rm = some b ∧ D.wm = some c
theorem eqm_some (q : Nat) (W : World) : (binOp BinOp.eql 50 (.map (some q)) (.map none)).run Try.prog W = .ok (.bool false) W := by kernel_rfl
theorem eqm_none (W : World) : (binOp BinOp.eql 50 (.map none) (.map none)).run Try.prog W = .ok (.bool true) W := by kernel_rfl
section
variable {F : Nat → Prop} {w : World} {t : Nat} {D : Td}
set_option maxRecDepth 100000 in
set_option maxHeartbeats 2000000 in
theorem start_made (h : TbAt F w t D) (hM : D.Made) : Calls Try.prog 25 #[ptV t] w fun e w' => e = .returned (.tuple #[]) ∧ w' = w := by
  obtain ⟨a, b, c, h1, _, _⟩ := hM
  have c0 := h.cells.1
  rw [h1] at c0
  have q1 := eqm_some a
  go_enter Try.func25, Try.ntmps25
  go_wp2
  go_end0
  exact ⟨rfl, rfl⟩
set_option maxRecDepth 100000 in
set_option maxHeartbeats 2000000 in
theorem start_new (h : TbAt F w t Td.none) : Calls Try.prog 25 #[ptV t] w fun e w' => e = .returned (.tuple #[]) ∧ ∃ a b c, TbAt (Grown F w) w' t (Td.made a b c) ∧ Only (fun k => k = t) w w' := by
  obtain ⟨hF, htl, hb⟩ := h.top
  have hb : w.heap[t]? = some (.cells #[.map none, .map none, .map none] 54 (0, 0)) := hb
  obtain ⟨W3, hW3⟩ : ∃ W3, W3 = ((w.alloc (.map #[] 0)).alloc (.map #[] 0)).alloc (.map #[] 0) := ⟨_, rfl⟩
  have hs3 : W3.heap.size = w.heap.size + 3 := by rw [hW3]; simp
  have hb3 : W3.heap[t]? = some (.cells #[.map none, .map none, .map none] 54 (0, 0)) := by
    rw [hW3, Below.heap_alloc _ _ _ (by simp; omega), Below.heap_alloc _ _ _ (by simp; omega), Below.heap_alloc _ _ _ htl, hb]
  have m1 : W3.heap[w.heap.size]? = (w.alloc (.map #[] 0)).heap[w.heap.size]? := by
    rw [hW3, Below.heap_alloc _ _ _ (by simp; omega), Below.heap_alloc _ _ _ (by simp)]
  have m2 : W3.heap[w.heap.size + 1]? = ((w.alloc (.map #[] 0)).alloc (.map #[] 0)).heap[w.heap.size + 1]? := by
    rw [hW3, Below.heap_alloc _ _ _ (by simp)]
  have HF : Hid (TbAt (Grown F w) (((W3.setCell ⟨t, 0, none⟩ (.map (some w.heap.size))).setCell ⟨t, 1, none⟩ (.map (some (w.heap.size + 1)))).setCell ⟨t, 2, none⟩ (.map (some (w.heap.size + 2)))) t (Td.made w.heap.size (w.heap.size + 1) (w.heap.size + 2)) ∧ Only (fun k => k = t) w (((W3.setCell ⟨t, 0, none⟩ (.map (some w.heap.size))).setCell ⟨t, 1, none⟩ (.map (some (w.heap.size + 1)))).setCell ⟨t, 2, none⟩ (.map (some (w.heap.size + 2))))) := Hid.mk (by
    have other : ∀ k, k ≠ t → (((W3.setCell ⟨t, 0, none⟩ (.map (some w.heap.size))).setCell ⟨t, 1, none⟩ (.map (some (w.heap.size + 1)))).setCell ⟨t, 2, none⟩ (.map (some (w.heap.size + 2)))).heap[k]? = W3.heap[k]? := fun k hk => by
      rw [set_other _ _ _ _ hk, set_other _ _ _ _ hk, set_other _ _ _ _ hk]
    refine ⟨TbAt.start (.inl hF) (.inr (Nat.le_refl _)) (.inr (by omega)) (.inr (by omega)) (by omega) (by omega) (by omega) (by omega) (by omega) (by omega) ?_ ?_ ?_ ?_, ?_⟩
    · rw [blk_set (blk_set (blk_set hb3))]
      rfl
    · exact (MAt.new w 3).kept ((other _ (by omega)).trans m1)
    · have := MAt.new (w.alloc (.map #[] 0)) 3
      rw [show (w.alloc (.map #[] 0)).heap.size = w.heap.size + 1 by simp] at this
      exact this.kept ((other _ (by omega)).trans m2)
    · have := MAt.new ((w.alloc (.map #[] 0)).alloc (.map #[] 0)) 3
      rw [show ((w.alloc (.map #[] 0)).alloc (.map #[] 0)).heap.size = w.heap.size + 2 by simp, ← hW3] at this
      exact this.kept (other _ (by omega))
    · have h0 : Only (fun k => k = t) w W3 := by rw [hW3]; exact (((Only.refl _ w).alloc _).alloc _).alloc _
      exact ((h0.setCell (p := ⟨t, 0, none⟩) (.inl rfl) _).setCell (p := ⟨t, 1, none⟩) (.inl rfl) _).setCell (p := ⟨t, 2, none⟩) (.inl rfl) _)
  have c0 : w.cell? ⟨t, 0, none⟩ = some (.map none) := by rw [blk_cell hb]; rfl
  have b4 := blk_set (i := 0) (u := .map (some w.heap.size)) hb3
  have b5 := blk_set (i := 1) (u := .map (some (w.heap.size + 1))) b4
  have d0 : W3.cell? ⟨t, 0, none⟩ = some (.map none) := by rw [blk_cell hb3]; rfl
  have d1 : (W3.setCell ⟨t, 0, none⟩ (.map (some w.heap.size))).cell? ⟨t, 1, none⟩ = some (.map none) := by rw [blk_cell b4]; rfl
  have d2 : ((W3.setCell ⟨t, 0, none⟩ (.map (some w.heap.size))).setCell ⟨t, 1, none⟩ (.map (some (w.heap.size + 1)))).cell? ⟨t, 2, none⟩ = some (.map none) := by rw [blk_cell b5]; rfl
  have f0 : W3.frozen? ⟨t, 0, none⟩ = false := blk_free hb3 0
  have f1 : (W3.setCell ⟨t, 0, none⟩ (.map (some w.heap.size))).frozen? ⟨t, 1, none⟩ = false := blk_free b4 1
  have f2 : ((W3.setCell ⟨t, 0, none⟩ (.map (some w.heap.size))).setCell ⟨t, 1, none⟩ (.map (some (w.heap.size + 1)))).frozen? ⟨t, 2, none⟩ = false := blk_free b5 2
  have q1 := eqm_none
  have r1 : ∀ ty, (Instr.makeMap ty none).run Try.prog w = .ok (.map (some w.heap.size)) (w.alloc (.map #[] 0)) := fun ty => run_makeMap ty w
  have r2 : ∀ ty, (Instr.makeMap ty none).run Try.prog (w.alloc (.map #[] 0)) = .ok (.map (some (w.heap.size + 1))) ((w.alloc (.map #[] 0)).alloc (.map #[] 0)) := fun ty => by
    rw [run_makeMap]
    simp
  have r3 : ∀ ty, (Instr.makeMap ty none).run Try.prog ((w.alloc (.map #[] 0)).alloc (.map #[] 0)) = .ok (.map (some (w.heap.size + 2))) W3 := fun ty => by
    rw [run_makeMap, hW3]
    simp
  clear hW3 h hb hb3 m1 m2 hs3 b4 b5
  go_enter Try.func25, Try.ntmps25
  go_wp2
  go_end0
  exact ⟨rfl, _, _, _, HF.out.1, HF.out.2⟩
end
end Go.Proofs.Ytoediflikoedaaa
