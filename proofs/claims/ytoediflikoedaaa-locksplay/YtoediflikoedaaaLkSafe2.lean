/-
  LocksSafe: what a call makes of who is alone; a table beside a row of bools, a lock in a box, and what was granted.
-/
import Derived.Test.YtoediflikoedaaaLkSafe
import Derived.Test.YtoediflikoedaaaLaySh
namespace Go.Proofs.Ytoediflikoedaaa
open Go Go.Proofs Go.RowKit Go.Shelf
theorem run_al (h : Option (List Int × Bool)) (L : List Lk) : ∀ l ∈ L.take (runN h L), l.al = true → (holdL (runH h L)).length ≤ 1 := by
  induction L generalizing h with
  | nil => intro l hl; simp at hl
  | cons l r ih =>
    rw [runH_cons, runN_cons]
    by_cases hb : besB h l.al = true
    · rw [if_pos hb, if_pos hb]
      intro l' hl' ha
      rw [List.take_succ_cons] at hl'
      rcases List.mem_cons.1 hl' with e | e
      · subst e
        cases h with
        | some y => simp [besB, ha] at hb
        | none =>
          have : putH none l' = ([l'.th], true) := by unfold putH; rw [ha]
          rw [this, (run_alone _ _).2]
          simp [holdL]
      · exact ih _ l' e ha
    · rw [if_neg hb, if_neg hb]
      intro l' hl'
      simp at hl'
theorem holdL_drop (h : Option (List Int × Bool)) (p : Int) : (holdL (dropH h p)).length ≤ (holdL h).length := by
  cases h with
  | none => simp [dropH]
  | some y =>
    simp only [dropH]
    split
    · simp [holdL]
    · simp only [holdL, delS]
      exact List.length_filter_le _ _
/-- What was granted at thing x, and who is alone. -/
structure Gr (A A' : Ta) (L : List Lk) (x : Int) : Prop where
  got : ∀ l ∈ L, A'.holds l.th x = true ∧ l.tg = x ∧ l.wf
  one : ∀ l ∈ L, l.al = true → (holdL (A'.held x)).length ≤ 1
  non : L = [] → (holdL (A'.held x)).length ≤ (holdL (A.held x)).length
  oth : ∀ y, y ≠ x → A'.held y = A.held y
theorem gr_rel {A : Ta} (hA : A.Ok) (p x : Int) : Gr A (A.rel p x) (A.relL p x) x := by
  cases hh : A.holds p x with
  | false =>
    rw [(rel_same hh).1, (rel_same hh).2]
    exact ⟨fun l hl => (by cases hl), fun l hl => (by cases hl), fun _ => Nat.le_refl _, fun _ _ => rfl⟩
  | true =>
    obtain ⟨r1, r2, r3, r4, r5⟩ := rel_at hh
    refine ⟨fun l hl => ?_, fun l hl ha => ?_, fun e => ?_, fun y hy => (r1 y hy).1⟩
    · refine ⟨?_, ?_⟩
      · unfold Ta.holds
        rw [r2, runH_mem]
        rw [r4] at hl
        have : l.th ∈ (((A.rows x).getD []).take (runN (dropH (A.held x) p) ((A.rows x).getD []))).map Lk.th := List.mem_map.2 ⟨l, hl, rfl⟩
        rw [decide_eq_true this, Bool.or_true]
      · rw [r4] at hl
        have hm := List.mem_of_mem_take hl
        cases hr : A.rows x with
        | none => rw [hr] at hm; cases hm
        | some M =>
          rw [hr] at hm
          obtain ⟨q1, q2, _⟩ := (hA.row x M hr).2.2.1 l hm
          exact ⟨q2, q1⟩
    · rw [r2]
      rw [r4] at hl
      exact run_al _ _ l hl ha
    · rw [r2]
      rw [r4] at e
      have : runH (dropH (A.held x) p) ((A.rows x).getD []) = dropH (A.held x) p := by
        generalize (A.rows x).getD [] = M at e
        cases M with
        | nil => rfl
        | cons l r =>
          rw [runN_cons] at e
          rw [runH_cons]
          by_cases hb : besB (dropH (A.held x) p) l.al = true
          · rw [if_pos hb] at e
            simp at e
          · rw [if_neg hb]
      rw [this]
      exact holdL_drop _ _
theorem gr_yes {A : Ta} {l : Lk} (hl : l.wf) (h : A.askB l = true) : Gr A (A.ask l) [l] l.tg := by
  unfold Ta.askB at h
  simp only [Bool.and_eq_true, Bool.not_eq_true'] at h
  obtain ⟨⟨h1, h2⟩, h3, h4⟩ := h
  have e : A.ask l = A.grant l := by
    unfold Ta.ask
    rw [if_neg (by rw [h2]; simpa using h1), if_pos (by rw [h3, h4]; rfl)]
  rw [e]
  have e2 : (A.grant l).held l.tg = some (putH (A.held l.tg) l) := updC_same _ _ _
  refine ⟨fun l' hl' => ?_, fun l' hl' ha => ?_, fun e => (by cases e), fun y hy => updC_other _ _ hy⟩
  · rw [List.mem_singleton.1 hl']
    refine ⟨?_, rfl, hl⟩
    unfold Ta.holds
    rw [e2, holdB_put]
    simp
  · rw [List.mem_singleton.1 hl'] at ha
    rw [e2]
    rw [ha] at h4
    cases hd : A.held l.tg with
    | none => simp [putH, holdL]
    | some y => rw [hd] at h4; simp [besB] at h4
theorem gr_no {A : Ta} {l : Lk} (h : A.askB l = false) : Gr A (A.ask l) [] l.tg := by
  have e : (A.ask l).held = A.held := by
    unfold Ta.askB at h
    unfold Ta.ask
    split
    · rfl
    · rename_i q
      split
      · rename_i q2
        simp at q
        rw [q2, q.2] at h
        simp [q.1] at h
      · rfl
  rw [show Gr A (A.ask l) [] l.tg = Gr A (A.ask l) [] l.tg from rfl]
  refine ⟨fun l hl => (by cases hl), fun l hl => (by cases hl), fun _ => (by rw [e]; exact Nat.le_refl _), fun y _ => (by rw [e])⟩
/-! ### Rows of bools -/
def updT (t : Nat → Bool) (n : Nat) (on : Bool) : Nat → Bool := fun m => if m = n then on else t m
def noT : Nat → Bool := fun _ => false
def bo (n : Nat) (f : Nat → Bool) : Array Value := ((List.range n).map (fun i => Value.bool (f i))).toArray
def OwB (W : World) (s n : Nat) (f : Nat → Bool) : Prop := W.heap[s]? = some (.cells (bo n f) 4 (0, 0))
theorem OwB.lt {W : World} {s n : Nat} {f : Nat → Bool} (h : OwB W s n f) : s < W.heap.size := lt_of_block h
theorem bo_get {n i : Nat} {f : Nat → Bool} (h : i < n) : (bo n f)[i]? = some (.bool (f i)) := by
  unfold bo
  simp [h]
theorem bo_size (n : Nat) (f : Nat → Bool) : (bo n f).size = n := by simp [bo]
theorem OwB.cell {W : World} {s n i : Nat} {f : Nat → Bool} (h : OwB W s n f) (hi : i < n) : W.cell? ⟨s, i, none⟩ = some (.bool (f i)) := by
  rw [blk_cell h, bo_get hi]
theorem OwB.set {W : World} {s n i : Nat} {f : Nat → Bool} (h : OwB W s n f) (v : Bool) : OwB (W.setCell ⟨s, i, none⟩ (.bool v)) s n (updT f i v) := by
  unfold OwB
  rw [blk_set h]
  congr 2
  apply Array.ext_getElem?
  intro j
  rw [Array.getElem?_setIfInBounds]
  rcases Nat.lt_or_ge j n with hj | hj
  · rw [bo_get hj, bo_get hj]
    unfold updT
    by_cases e : i = j
    · subst e
      rw [if_pos rfl, if_pos (by rw [bo_size]; exact hj), if_pos rfl]
    · rw [if_neg e, if_neg (fun h => e h.symm)]
  · rw [Array.getElem?_eq_none (xs := bo n (updT f i v)) (by rw [bo_size]; exact hj), Array.getElem?_eq_none (xs := bo n f) (by rw [bo_size]; exact hj)]
    split <;> simp_all [bo_size]
theorem info4b : (Try.prog.info? 4).map (fun i => (i.zero, i.size, i.bytes)) = some (some (.bool false), 1, 1) := by kernel_rfl
theorem info4p : ∃ i0, Try.prog.info? 4 = some i0 ∧ i0.zero = some (.bool false) ∧ i0.size = 1 ∧ i0.bytes = 1 := by
  cases h : Try.prog.info? 4 with
  | none => have := info4b; rw [h] at this; cases this
  | some i =>
    have h2 := info4b
    rw [h] at h2
    simp at h2
    exact ⟨i, rfl, h2.1, h2.2⟩
theorem makeb_run (w : World) (n : Nat) (hn : n ≤ 16777216) : (Instr.makeSlice 45 (.int .i64 n) (.int .i64 n)).run Try.prog w = .ok (.slice (some ⟨w.heap.size, 0, none⟩) n n) (w.alloc (.cells (bo n noT) 4)) := by
  obtain ⟨i0, hi, hz0, hz1, hz2⟩ := info4p
  rw [run_makeSlice (P := Try.prog) w 45 4 i0 (.bool false) Try.underlying45 hi hz0 .i64 .i64 n n (by omega) (by omega) (by rw [hz1]; simp; omega) (by rw [hz2]; omega) (by omega)]
  have e : madeCells (Value.bool false).cells ((n : Int).toNat * i0.size) = bo n noT := by
    rw [hz1]
    apply Array.ext'
    rw [show (bo n noT).toList = List.replicate n (Value.bool false) by simp [bo, noT, List.map_const'], List.eq_replicate_iff]
    simp [madeCells, Value.cells, Nat.mod_one]
  rw [e]
  simp
/-- Between two rounds: the table and the row of bools. -/
structure So (w W : World) (t N g : Nat) (f : Nat → Bool) (A : Ta) : Prop where
  o : LkO (fun k => k = g) w W t A N
  r : OwB W g 10 f
  lo : w.heap.size ≤ g
  one : ∀ x : Nat, x < 10 → f x = true → (holdL (A.held x)).length ≤ 1
/-- Inside a round: the box of the lock, and what was granted, besides. -/
structure SfO (w W : World) (t N g : Nat) (f : Nat → Bool) (b : Nat) (l : Lk) (v : Value) (L : List Lk) (A : Ta) : Prop where
  o : LkO (fun k => k = g ∨ k = b ∨ v.ownBlock = some k) w W t A N
  r : OwB W g 10 f
  bx : W.heap[b]? = some (lkO l)
  sl : SlOk W v L
  gb : g ≠ b
  gv : v.ownBlock ≠ some g
  bv : v.ownBlock ≠ some b
  lo : w.heap.size ≤ g
section
variable {w W W' : World} {t N g b : Nat} {f : Nat → Bool} {l : Lk} {v : Value} {L : List Lk} {A : Ta}
theorem SlOk.keep (h : SlOk W v L) (hk : ∀ k, v.ownBlock = some k → W'.heap[k]? = W.heap[k]?) : SlOk W' v L := by
  rcases h with h | ⟨g, h1, off, cap, cur, h2, h3, h4⟩
  · exact .inl h
  · exact .inr ⟨g, h1, off, cap, cur, h2, (hk g h1).trans h3, h4⟩
theorem SlOk.lt' (h : SlOk W v L) {k : Nat} (hk : v.ownBlock = some k) : k < W.heap.size := by
  rcases h with ⟨rfl, _⟩ | ⟨g, h1, off, cap, cur, h2, h3, h4⟩
  · cases hk
  · rw [h1] at hk
    cases hk
    exact lt_of_block h3
theorem sf_start (h : So w W t N g f A) (l : Lk) : SfO w (W.alloc (lkO l)) t N g f W.heap.size l (.slice none 0 0) [] A := by
  have hg := h.r.lt
  refine ⟨h.o.side ((Only.refl (fun _ => False) W).alloc _) (fun _ q => q.elim) (fun k hk => ?_), ?_, blk_new W _, .inl ⟨rfl, rfl⟩, by omega, by simp [Value.ownBlock], by simp [Value.ownBlock], h.lo⟩
  · rcases hk with rfl | rfl | hk
    · exact ⟨by simp; omega, .inl rfl⟩
    · exact ⟨by simp, .inr (Nat.le_refl _)⟩
    · cases hk
  · unfold OwB
    rw [Below.heap_alloc _ _ _ hg]
    exact h.r
theorem SfO.keep (h : SfO w W t N g f b l v L A) {A' : Ta} {N' : Nat} (ho : LkO (fun k => k = g ∨ k = b ∨ v.ownBlock = some k) w W' t A' N') (hk : ∀ k, (k = g ∨ k = b ∨ v.ownBlock = some k) → W'.heap[k]? = W.heap[k]?) : SfO w W' t N' g f b l v L A' :=
  ⟨ho, (hk g (.inl rfl)).trans h.r, (hk b (.inr (.inl rfl))).trans h.bx, h.sl.keep (fun k q => hk k (.inr (.inr q))), h.gb, h.gv, h.bv, h.lo⟩
theorem SfO.grow (h : SfO w W t N g f b l v L A) (hB : Below W.heap.size W W') : SfO w W' t N g f b l v L A := h.keep (h.o.grow hB) (fun k hk => hB.block k (h.o.lt k hk))
theorem sf_ask (h : SfO w W t N g f b l v L A) (hl : l.wf) (hN : N < 1000000) : Calls Try.prog 11 #[ptV t, lkV l] W fun e W' => e = .returned (.bool (A.askB l)) ∧ Hid (SfO w W' t (N + 1) g f b l v L (A.ask l)) := by
  refine (o_ask h.o l hl hN).mono ?_
  rintro e W' ⟨rfl, HQ⟩
  exact ⟨rfl, Hid.mk (h.keep HQ.out.1 HQ.out.2)⟩
theorem sf_add (h : SfO w W t N g f b l (.slice none 0 0) [] A) : ∃ ao c W', (Builtin.append_ #[27, 27] 27 #[.slice none 0 0, .slice (some ⟨W.heap.size, 0, none⟩) 1 1]).run Try.prog (W.alloc (.cells #[.int .i64 l.th, .int .i64 l.tg, .bool l.al] 31)) = .ok (.slice ao 1 c) W' ∧ Hid (SfO w W' t N g f b l (.slice ao 1 c) [l] A) := by
  obtain ⟨v', g', W', p1, p2, p3, p4, p5⟩ := appendl (v := .slice none 0 0) (L := []) (W := W) (.inl ⟨rfl, rfl⟩) l (by simp)
  have p4 : W.heap.size < g' := p4.elim (fun q => by cases q) id
  have hS : SlOk W' v' [l] := .inr ⟨g', p2, p3⟩
  obtain ⟨ao, c, rfl⟩ := hS.slice
  have p2 : (Value.slice ao 1 c).ownBlock = some g' := p2
  have hg := h.r.lt
  have hb := lt_of_block h.bx
  refine ⟨ao, c, W', p1, Hid.mk ⟨?_, (p5.block g hg (by omega)).trans h.r, (p5.block b hb (by omega)).trans h.bx, hS, h.gb, fun q => ?_, fun q => ?_, h.lo⟩⟩
  · have hO : Only (fun _ => False) W W' := p5.mono (fun k hk e => by omega)
    refine h.o.side hO (fun _ q => q.elim) (fun k hk => ?_)
    rcases hk with rfl | rfl | hk
    · exact ⟨Nat.lt_of_lt_of_le hg p5.size, .inl (.inl rfl)⟩
    · exact ⟨Nat.lt_of_lt_of_le hb p5.size, .inl (.inr (.inl rfl))⟩
    · refine ⟨hS.lt' hk, .inr ?_⟩
      rw [p2] at hk
      cases hk
      omega
  · rw [p2] at q; cases q; omega
  · rw [p2] at q; cases q; omega
theorem sf_rel (h : SfO w W t N g f b l (.slice none 0 0) [] A) (p x : Int) (hp : (Lit.int .i64 p).wf = true) (hx : (Lit.int .i64 x).wf = true) (hN : N ≤ 400000) : Calls Try.prog 14 #[ptV t, .int .i64 p, .int .i64 x] W fun e W' => ∃ ao c, e = .returned (.slice ao (A.relL p x).length c) ∧ Hid (SfO w W' t N g f b l (.slice ao (A.relL p x).length c) (A.relL p x) (A.rel p x)) := by
  obtain ⟨D, h1, rfl, h3, h4⟩ := h.o.at'
  refine (rel_any h1 p x hp hx h3 h4 hN (abs_rowok h.o.ok x)).mono ?_
  rintro e W' ⟨u, rfl, HQ⟩
  obtain ⟨b1, b2, b3, D', b4, b5, b6, b7, b8, b9⟩ := HQ.out
  obtain ⟨ao, c, rfl⟩ := b1.slice
  have hg := h.r.lt
  have hb := lt_of_block h.bx
  have hkp : ∀ k, k = g ∨ k = b → W'.heap[k]? = W.heap[k]? := fun k hk => b3.block k (by rcases hk with rfl | rfl <;> assumption) (fun q => q.2 (hk.elim .inl (fun e => .inr (.inl e))))
  refine ⟨ao, c, rfl, Hid.mk ⟨⟨⟨D', b4.mono (fun k hk q => ?_), b5, b7, b6⟩, ok_rel h.o.ok p x, h.o.bel.trans (b3.below h.o.bel.size (fun k hk => hk.1)), fun k hk => ?_⟩, (hkp g (.inl rfl)).trans h.r, (hkp b (.inr rfl)).trans h.bx, b1, h.gb, fun q => ?_, fun q => ?_, h.lo⟩⟩
  · obtain ⟨q1, q2⟩ := q
    rcases q1 with q1 | q1
    · refine ⟨q1.1, fun r => ?_⟩
      rcases r with r | r | r
      · exact q1.2 (.inl r)
      · exact q1.2 (.inr (.inl r))
      · exact q2 r
    · refine ⟨Nat.le_trans h.o.bel.size q1, fun r => ?_⟩
      rcases r with r | r | r
      · omega
      · omega
      · exact q2 r
  · rcases hk with q | q | q
    · rw [q]; exact Nat.lt_of_lt_of_le hg b3.size
    · rw [q]; exact Nat.lt_of_lt_of_le hb b3.size
    · exact b1.lt' q
  · have := b2 g q; omega
  · have := b2 b q; omega
theorem sf_holders (h : SfO w W t N g f b l v L A) (x : Int) (hx : (Lit.int .i64 x).wf = true) (hN : N ≤ 1000000) : Calls Try.prog 18 #[ptV t, .int .i64 x] W fun e W' => ∃ ao c, e = .returned (.slice ao (holdL (A.held x)).length c) ∧ Hid (SfO w W' t N g f b l v L A) := by
  refine (o_holders h.o x hx hN).mono ?_
  rintro e W' ⟨ao, c, rfl, HQ⟩
  exact ⟨ao, c, rfl, Hid.mk (h.keep HQ.out.2.1 HQ.out.2.2)⟩
theorem sf_holds (h : SfO w W t N g f b l v L A) (p x : Int) (hp : (Lit.int .i64 p).wf = true) (hx : (Lit.int .i64 x).wf = true) : Calls Try.prog 19 #[ptV t, .int .i64 p, .int .i64 x] W fun e W' => e = .returned (.bool (A.holds p x)) ∧ Hid (SfO w W' t N g f b l v L A) := by
  refine (o_holds h.o p x hp hx).mono ?_
  rintro e W' ⟨rfl, HQ⟩
  exact ⟨rfl, Hid.mk (h.grow HQ.out.2)⟩
theorem sf_set (h : SfO w W t N g f b l v L A) (x : Nat) (on : Bool) : SfO w (W.setCell ⟨g, x, none⟩ (.bool on)) t N g (updT f x on) b l v L A := by
  have hO : Only (fun j => j = g) W (W.setCell ⟨g, x, none⟩ (.bool on)) := (Only.refl (fun j => j = g) W).setCell (p := ⟨g, x, none⟩) (.inl rfl) _
  refine ⟨h.o.side hO (fun j hj => ⟨.inl hj, by rw [hj]; exact h.lo⟩) (fun j hj => ⟨Nat.lt_of_lt_of_le (h.o.lt j hj) hO.size, .inl hj⟩), h.r.set on, ?_, h.sl.keep (fun k hk => hO.block k (h.sl.lt' hk) (fun e => h.gv (by rw [hk, e]))), h.gb, h.gv, h.bv, h.lo⟩
  rw [hO.block b (lt_of_block h.bx) (fun e => h.gb e.symm)]
  exact h.bx
theorem sf_box (h : SfO w W t N g f b l v L A) : W.cell? ⟨b, 0, none⟩ = some (.int .i64 l.th) ∧ W.cell? ⟨b, 1, none⟩ = some (.int .i64 l.tg) ∧ W.cell? ⟨b, 2, none⟩ = some (.bool l.al) := by
  have := h.bx
  refine ⟨?_, ?_, ?_⟩ <;> (rw [blk_cell this]; rfl)
theorem sf_row (h : SfO w W t N g f b l v L A) {x : Nat} (hx : x < 10) : W.cell? ⟨g, x, none⟩ = some (.bool (f x)) ∧ W.frozen? ⟨g, x, none⟩ = false := ⟨h.r.cell hx, blk_free h.r x⟩
theorem sf_at {ao : Option Addr} {m c : Nat} (h : SfO w W t N g f b l (.slice ao m c) L A) {k : Nat} (hk : k < m) : L.length = m ∧ ∃ gg off, ao = some ⟨gg, off, none⟩ ∧ gg ≠ g ∧ gg ≠ b ∧ gg < W.heap.size ∧ W.cell? ⟨gg, off + k * 3, none⟩ = some (.int .i64 (L.getD k Lk.zero).th) ∧ W.cell? ⟨gg, off + k * 3 + 1, none⟩ = some (.int .i64 (L.getD k Lk.zero).tg) ∧ W.cell? ⟨gg, off + k * 3 + 2, none⟩ = some (.bool (L.getD k Lk.zero).al) := by
  rcases h.sl with ⟨e, _⟩ | ⟨gg, h1, hR⟩
  · cases e; omega
  · obtain ⟨off, cap, e1, e2, e3, e4⟩ := hR.cells
    cases e1
    refine ⟨rfl, gg, off, rfl, fun q => h.gv (by rw [h1, q]), fun q => h.bv (by rw [h1, q]), e2, ?_⟩
    have hget : L[k]? = some (L.getD k Lk.zero) := by rw [List.getD, List.getElem?_eq_getElem hk]; rfl
    exact e4 k _ hget
theorem sf_cells {gg off m c : Nat} (h : SfO w W t N g f b l (.slice (some ⟨gg, off, none⟩) m c) L A) {k : Nat} (hk : k < m) : W.cell? ⟨gg, off + k * 3, none⟩ = some (.int .i64 (L.getD k Lk.zero).th) ∧ W.cell? ⟨gg, off + k * 3 + 1, none⟩ = some (.int .i64 (L.getD k Lk.zero).tg) ∧ W.cell? ⟨gg, off + k * 3 + 2, none⟩ = some (.bool (L.getD k Lk.zero).al) := by
  obtain ⟨_, g2, o2, e, _, _, _, h2⟩ := sf_at h hk
  cases e
  exact h2
theorem sf_len {ao : Option Addr} {m c : Nat} (h : SfO w W t N g f b l (.slice ao m c) L A) : m ≤ 9223372036854775807 := by
  rcases h.sl with ⟨e, _⟩ | ⟨gg, h1, off, cap, cur, e, _, h2, _, h3, _⟩
  · cases e; omega
  · cases e
    unfold maxLen at h3
    omega
theorem sf_end (h : SfO w W t N g f b l v L A) (ho : ∀ x : Nat, x < 10 → f x = true → (holdL (A.held x)).length ≤ 1) : So w W t N g f A :=
  ⟨h.o.side (Only.refl (fun _ => False) W) (fun _ q => q.elim) (fun k hk => ⟨h.o.lt k (.inl hk), .inl (.inl hk)⟩), h.r, h.lo, ho⟩
end
end Go.Proofs.Ytoediflikoedaaa
