/-
  Stuck: what lies where between two steps of it.
-/
import Derived.Test.YtoediflikoedaaaLkSteps
import Derived.Test.YtoediflikoedaaaLkFree
namespace Go.Proofs.Ytoediflikoedaaa
open Go Go.Proofs Go.RowKit Go.Shelf Go.Maps
open Go.ChangeMaps (setBlock)
attribute [local go_sem] Oper.semAt_some
/-- The keys of a map of numbers, rising. -/
theorem keys_exist {α : Type} {e : α → Value} {W : World} {b n : Nat} {f : Int → Option α} (h : MAt W 3 b n (intF e f)) (hf : ∀ x, (f x).isSome = true → (Lit.int .i64 x).wf = true) : ∃ L, KeyL (intF e f) L ∧ L.length = n := by
  obtain ⟨D, hown, hsz, hD⟩ := h
  have hwf := intKeys_wf hown Try.underlying3
  have hown' := hown
  obtain ⟨es, rfl, h1, h2⟩ := hown.entries keyed3
  have hks : ∀ q ∈ es, ∃ x, q.1 = .int .i64 x := by
    intro q hq
    obtain ⟨es0, clock, hb, F, hs, hD0⟩ := hown'
    cases hD0
    rw [mem_sorted] at hq
    obtain ⟨e0, he0, rfl⟩ := List.mem_map.1 hq
    obtain ⟨l, hl0⟩ := F.keys e0 he0
    obtain ⟨x, _, e2, _⟩ := Maps.keyOf_int_inv Try.underlying3 hl0
    refine ⟨x, ?_⟩
    have : (WideElems.rg Try.prog 3 rawE e0).1 = l := by simp [WideElems.rg, WideElems.rd, hl0, rawE]
    rw [this, e2]
  have hnd : (intKeys (.map es : DataW Value)).Nodup := by
    show (es.map fun p => Go.intOf p.1).Nodup
    refine List.pairwise_map.2 (h1.imp_of_mem fun {p q} hp' hq' hne e => hne ?_)
    obtain ⟨a, ha⟩ := hks p hp'
    obtain ⟨b, hb⟩ := hks q hq'
    rw [ha, hb] at e ⊢
    exact congrArg _ e
  have hmem : ∀ x, x ∈ intKeys (.map es : DataW Value) ↔ Maps.has (.map es : DataW Value) (.int .i64 x) = true := fun x => by
    rw [Maps.has_eq, List.any_eq_true]
    show x ∈ es.map (fun p => Go.intOf p.1) ↔ _
    rw [List.mem_map]
    constructor
    · rintro ⟨p, hp', rfl⟩
      obtain ⟨a, ha⟩ := hks p hp'
      exact ⟨p, hp', by rw [ha]; simp [Lit.sameKey, Go.intOf]⟩
    · rintro ⟨p, hp', hs⟩
      obtain ⟨a, ha⟩ := hks p hp'
      rw [ha] at hs
      exact ⟨p, hp', by rw [ha]; simpa [Lit.sameKey, Go.intOf] using hs⟩
  have hp := List.mergeSort_perm (intKeys (.map es : DataW Value)) leI
  refine ⟨(intKeys (.map es : DataW Value)).mergeSort leI, ⟨⟨?_, fun x hx => hwf x (hp.mem_iff.1 hx)⟩, fun x => ?_⟩, ?_⟩
  · have h3 := List.pairwise_mergeSort (le := leI) (fun a b c h1 h2 => by simp only [leI, decide_eq_true_eq] at *; omega) (fun a b => by simp only [leI, Bool.or_eq_true, decide_eq_true_eq]; omega) (intKeys (.map es : DataW Value))
    have h4 : ((intKeys (.map es : DataW Value)).mergeSort leI).Nodup := hp.nodup_iff.2 hnd
    exact (h3.and h4).imp (fun {a b} ⟨q1, q2⟩ => by simp only [leI, decide_eq_true_eq] at q1; omega)
  · have : x ∈ (intKeys (.map es : DataW Value)).mergeSort leI ↔ (f x).isSome = true := by
      rw [hp.mem_iff, hmem]
      constructor
      · intro q
        have hw := hwf x ((hmem x).2 q)
        rw [(hD _ _ (key_int hw)).1, intF_int, Option.isSome_map] at q
        exact q
      · intro q
        rw [(hD _ _ (key_int (hf x q))).1, intF_int, Option.isSome_map]
        exact q
    rw [intF_int, Option.isSome_map, Bool.eq_iff_iff, decide_eq_true_eq]
    exact this.symm
  · rw [hp.length_eq, ← hsz]
    show (es.map _).length = _
    rw [List.length_map]
    rfl
structure SkI (w0 : World) (t hb cb : Nat) (A0 : Ta) (N M0 : Nat) (X : Nat → Prop) (g : Nat) (wr : World) (D : Td) (f : Int → Option (Value × List Int)) (fv : Value) (l : List Int) : Prop where
  mem : ∃ Ft Fh n M, TbAt Ft wr t D ∧ HsAt Fh wr hb n f ∧ wr.ownsRow 0 3 1 fv l.length (Iy l) ∧ (∀ k, Ft k → w0.heap.size ≤ k ∧ k < wr.heap.size ∧ ¬ Fh k ∧ fv.ownBlock ≠ some k ∧ ¬ X k) ∧ (∀ k, Fh k → w0.heap.size ≤ k ∧ k < wr.heap.size ∧ fv.ownBlock ≠ some k ∧ ¬ X k) ∧ (∀ k, fv.ownBlock = some k → w0.heap.size ≤ k ∧ ¬ X k) ∧ n ≤ M ∧ l.length ≤ M ∧ (∀ i, (rowL f i).length ≤ M) ∧ M + D.nw + g ≤ M0
  wfl : ∀ th ∈ l, (Lit.int .i64 th).wf = true ∧ D.waits th = none
  wfr : ∀ i, ∀ z ∈ rowL f i, (Lit.int .i64 z).wf = true
  ok : D.abs.Ok
  st : D.St
  fit : Fit N D
  wm : D.wm = some cb
  steps : Steps A0 D.abs
  below : Below w0.heap.size w0 wr
section
variable {w0 : World} {t hb cb : Nat} {A0 : Ta} {N M0 : Nat} {X : Nat → Prop} {g : Nat} {wr wr' : World} {D : Td} {f : Int → Option (Value × List Int)} {fv : Value} {l : List Int}
theorem SkI.grow (h : SkI w0 t hb cb A0 N M0 X g wr D f fv l) (hB : Below wr.heap.size wr wr') : SkI w0 t hb cb A0 N M0 X g wr' D f fv l := by
  obtain ⟨Ft, Fh, n, M, a1, a2, a3, a4, a5, a6, a7⟩ := h.mem
  have hO := Only.of_new (fun _ => False) hB
  refine ⟨⟨Ft, Fh, n, M, a1.below hB, a2.only hO (fun _ _ _ q => q), owns_at a3 (fun k hk => hB.block k (own_lt a3 hk)), fun k hk => ?_, fun k hk => ?_, a6, a7⟩, h.wfl, h.wfr, h.ok, h.st, h.fit, h.wm, h.steps, h.below.trans (hB.mono h.below.size)⟩
  · obtain ⟨b1, b2, b3⟩ := a4 k hk
    exact ⟨b1, Nat.lt_of_lt_of_le b2 hB.size, b3⟩
  · obtain ⟨b1, b2, b3⟩ := a5 k hk
    exact ⟨b1, Nat.lt_of_lt_of_le b2 hB.size, b3⟩
theorem SkI.free (h : SkI w0 t hb cb A0 N M0 X g wr D f fv l) : SkI w0 t hb cb A0 N M0 (fun _ => False) g wr D f fv l := by
  obtain ⟨Ft, Fh, n, M, a1, a2, a3, a4, a5, a6, a7⟩ := h.mem
  exact ⟨⟨Ft, Fh, n, M, a1, a2, a3, fun k hk => ⟨(a4 k hk).1, (a4 k hk).2.1, (a4 k hk).2.2.1, (a4 k hk).2.2.2.1, fun q => q⟩, fun k hk => ⟨(a5 k hk).1, (a5 k hk).2.1, (a5 k hk).2.2.1, fun q => q⟩, fun k hk => ⟨(a6 k hk).1, fun q => q⟩, a7⟩, h.wfl, h.wfr, h.ok, h.st, h.fit, h.wm, h.steps, h.below⟩
theorem abs_rowok {D : Td} (h : D.abs.Ok) (tg : Int) : ∀ x, D.rows tg = some x → RowOk D tg x.L := fun x hx => by
  obtain ⟨a1, a2, a3, a4⟩ := h.row tg x.L (absr_at hx)
  exact ⟨fun l hl => ⟨(a3 l hl).1, (a3 l hl).2.1, by have := (a3 l hl).2.2; rw [show D.waits l.th = some l from this]; rfl⟩, a4⟩
/-- A thread that does not wait releases a thing. -/
theorem SkI.rel (h : SkI w0 t hb cb A0 N M0 (fun _ => False) 0 wr D f fv l) (hN : N ≤ 400000) (p x : Int) (hp : (Lit.int .i64 p).wf = true) (hx : (Lit.int .i64 x).wf = true) (hw : D.waits p = none) :
    Calls Try.prog 14 #[ptV t, .int .i64 p, .int .i64 x] wr fun e w' => ∃ ao c, e = .returned (.slice ao (D.abs.relL p x).length c) ∧ Hid (SlOk w' (.slice ao (D.abs.relL p x).length c) (D.abs.relL p x) ∧ ∃ D', D'.abs = D.abs.rel p x ∧ D'.nw + (D.abs.relL p x).length = D.nw ∧ SkI w0 t hb cb A0 N M0 (fun k => (Value.slice ao (D.abs.relL p x).length c).ownBlock = some k) (D.abs.relL p x).length w' D' f fv l) := by
  obtain ⟨Ft, Fh, n, M, a1, a2, a3, a4, a5, a6, a7, a8, a9, a10⟩ := h.mem
  refine (rel_any a1 p x hp hx h.st h.fit hN (abs_rowok h.ok x)).mono ?_
  rintro e w' ⟨u, rfl, HQ⟩
  obtain ⟨b1, b2, b3, D', b4, b5, b6, b7, b8, b9⟩ := HQ.out
  obtain ⟨ao, c, rfl⟩ := b1.slice
  have hsz := b3.size
  obtain ⟨r1, r2, r3, r4⟩ := rel_holds h.ok x (show D.abs.waits p = none from hw)
  refine ⟨ao, c, rfl, Hid.mk ⟨b1, D', b5, b8, ⟨⟨Old (fun j => Grown Ft wr j ∧ (Value.slice ao (D.abs.relL p x).length c).ownBlock ≠ some j) w', Fh, n, M, b4.old, a2.only b3 (fun k hk _ q => (a4 k q).2.2.1 hk), owns_at a3 (fun k hk => b3.block k (own_lt a3 hk) (fun q => (a4 k q).2.2.2.1 hk)), fun k hk => ?_, fun k hk => ?_, fun k hk => ?_, a7, a8, a9, ?_⟩, fun th hth => ⟨(h.wfl th hth).1, ?_⟩, h.wfr, by rw [b5]; exact ok_rel h.ok p x, b7, b6, b9.trans h.wm, by rw [b5]; exact .step p x h.steps hw, h.below.trans (b3.below h.below.size (fun k hk => (a4 k hk).1))⟩⟩⟩
  · obtain ⟨⟨q1, q2⟩, q3⟩ := hk
    rcases q1 with q1 | q1
    · obtain ⟨c1, c2, c3, c4, _⟩ := a4 k q1
      exact ⟨c1, q3, c3, c4, q2⟩
    · refine ⟨Nat.le_trans h.below.size q1, q3, fun q => ?_, fun q => ?_, q2⟩
      · have := (a5 k q).2.1; omega
      · have := own_lt a3 q; omega
  · obtain ⟨c1, c2, c3, _⟩ := a5 k hk
    exact ⟨c1, by omega, c3, fun q => by have := b2 k q; omega⟩
  · exact ⟨(a6 k hk).1, fun q => by have := b2 k q; have := own_lt a3 hk; omega⟩
  · omega
  · have : D'.abs.waits th = none := by
      rw [b5, r2]
      split
      · rfl
      · exact (h.wfl th hth).2
    exact this
/-- One that was granted something is written down. -/
theorem SkI.next (h : SkI w0 t hb cb A0 N M0 X (g + 1) wr D f fv l) (hM : M0 ≤ 1000000) (hX : ∀ k, X k → k < wr.heap.size) (y x : Int) (hy : (Lit.int .i64 y).wf = true) (hx : (Lit.int .i64 x).wf = true) (hw : D.waits y = none) :
    (∀ W : World, W.heap[hb]? = wr.heap[hb]? → (Instr.lookup 71 (.map (some hb)) (.int .i64 y) false).run Try.prog W = .ok (rowV f y) W) ∧ ∃ v' W', (Builtin.append_ #[39, 39] 39 #[rowV f y, .slice (some ⟨wr.heap.size, 0, none⟩) 1 1]).run Try.prog (wr.alloc (.cells #[.int .i64 x] 3)) = .ok v' W' ∧ W'.heap[hb]? = wr.heap[hb]? ∧ hb < wr.heap.size ∧ w0.heap.size ≤ hb ∧ ¬ X hb ∧ (∀ k, k < wr.heap.size → (k < w0.heap.size ∨ X k) → W'.heap[k]? = wr.heap[k]?) ∧ wr.heap.size ≤ W'.heap.size ∧ ∃ o, (Instr.mapUpdate 71 (.map (some hb)) (.int .i64 y) v').run Try.prog W' = .ok () (setBlock W' hb o) ∧
      ∃ fv' W2, (Builtin.append_ #[39, 39] 39 #[fv, .slice (some ⟨(setBlock W' hb o).heap.size, 0, none⟩) 1 1]).run Try.prog ((setBlock W' hb o).alloc (.cells #[.int .i64 y] 3)) = .ok fv' W2 ∧ (∃ ao c, fv' = .slice ao (l.length + 1) c) ∧
      Hid (SkI w0 t hb cb A0 N M0 X g W2 D (updC f y (some (v', rowL f y ++ [x]))) fv' (l ++ [y]) ∧ ∀ k, k < wr.heap.size → (k < w0.heap.size ∨ X k) → W2.heap[k]? = wr.heap[k]?) := by
  obtain ⟨Ft, Fh, n, M, a1, a2, a3, a4, a5, a6, a7, a8, a9, a10⟩ := h.mem
  refine ⟨fun W hW => ?_, ?_⟩
  · rw [(a2.map.kept hW).look keyed3 Try.underlying71 (zeroS W) (key_int hy), intF_int]
    unfold rowV
    cases f y <;> rfl
  obtain ⟨v', W', p1, p2, p3, o, p4, HQ⟩ := a2.add hy x (by omega) (by have := a9 y; omega)
  obtain ⟨⟨n', hn', hH⟩, hO⟩ := HQ.out
  obtain ⟨c1, c2, c3, c4⟩ := a5 hb a2.fhb
  have hsz := hO.size
  have ho1 : (setBlock W' hb o).ownsRow 0 3 1 fv l.length (Iy l) := owns_at a3 (fun k hk => hO.block k (own_lt a3 hk) (fun q => (a5 k q).2.2.1 hk))
  obtain ⟨fv', W2, q1, q2, q3, q4, g', q5⟩ := appendI (setBlock W' hb o) 0 fv l y ho1 (Nat.zero_le _) (by omega)
  have hs2 := q3.size
  have hT1 : TbAt Ft (setBlock W' hb o) t D := a1.only hO (fun k hk _ q => (a4 k hk).2.2.1 q)
  have hT2 : TbAt Ft W2 t D := hT1.only q3 (fun k hk _ q => (a4 k hk).2.2.2.1 q)
  have hg' : fv.ownBlock = some g' ∨ (setBlock W' hb o).heap.size ≤ g' := by
    rcases q4 with q | q
    · exact .inl (q ▸ q5)
    · rw [q5] at q; exact .inr (by have := Option.some.inj q; omega)
  have hH2 : HsAt (fun k => Grown Fh wr k ∧ k < (setBlock W' hb o).heap.size ∧ fv.ownBlock ≠ some k) W2 hb n' (updC f y (some (v', rowL f y ++ [x]))) := by
    have : HsAt (fun k => Grown Fh wr k ∧ k < (setBlock W' hb o).heap.size ∧ fv.ownBlock ≠ some k) (setBlock W' hb o) hb n' (updC f y (some (v', rowL f y ++ [x]))) := hH.mono (fun k hk q => ⟨q, hk, fun e => by
      rcases q with q | q
      · exact (a5 k q).2.2.1 e
      · have := own_lt a3 e; omega⟩)
    exact this.only q3 (fun k hk _ q => hk.2.2 q)
  refine ⟨v', W', p1, p2, c2, c1, c4, fun k hk hkx => p3.block k hk (fun q => ?_), p3.size, o, p4, fv', W2, q1, ?_, Hid.mk ⟨⟨⟨Ft, _, n', M + 1, hT2, hH2, q2, fun k hk => ?_, fun k hk => ?_, fun k hk => ?_, by omega, by simp; omega, fun i => ?_, by omega⟩, fun th hth => ?_, fun i z hz => ?_, h.ok, h.st, h.fit, h.wm, h.steps, ?_⟩, fun k hk hkx => ?_⟩⟩
  · rcases hkx with r | r
    · have := (a5 k q).1; omega
    · exact (a5 k q).2.2.2 r
  · rcases q2.2 with ⟨_, h0⟩ | ⟨g9, c9, _, e, _⟩
    · simp at h0
    · exact ⟨some ⟨g9, 0, none⟩, c9, by rw [e]; simp⟩
  · obtain ⟨b1, b2, b3, b4, b5⟩ := a4 k hk
    refine ⟨b1, by omega, fun q => ?_, fun q => ?_, b5⟩
    · rcases q.1 with q | q
      · exact b3 q
      · omega
    · rw [q5] at q
      cases q
      rcases hg' with r | r
      · exact b4 r
      · omega
  · obtain ⟨r1, r2, r3⟩ := hk
    refine ⟨?_, by omega, fun q => ?_, ?_⟩
    · rcases r1 with q | q
      · exact (a5 k q).1
      · exact Nat.le_trans h.below.size q
    · rw [q5] at q
      cases q
      rcases hg' with r | r
      · exact r3 r
      · omega
    · rcases r1 with q | q
      · exact (a5 k q).2.2.2
      · exact fun r => by have := hX k r; omega
  · rw [q5] at hk
    cases hk
    rcases hg' with r | r
    · exact a6 _ r
    · exact ⟨Nat.le_trans h.below.size (by omega), fun s => by have := hX _ s; omega⟩
  · rw [rowL_upd]
    split
    · have := a9 y; simp; omega
    · have := a9 i; omega
  · rcases List.mem_append.1 hth with q | q
    · exact h.wfl th q
    · rw [List.mem_singleton.1 q]; exact ⟨hy, hw⟩
  · rw [rowL_upd] at hz
    split at hz
    · rcases List.mem_append.1 hz with q | q
      · exact h.wfr y z q
      · rw [List.mem_singleton.1 q]; exact hx
    · exact h.wfr i z hz
  · refine (h.below.trans (hO.below h.below.size (fun k hk => (a5 k hk).1))).trans (q3.below (Nat.le_trans h.below.size hsz) (fun k hk => (a6 k hk).1))
  · rw [q3.block k (by omega) (fun q => ?_), hO.block k hk (fun q => ?_)]
    · rcases hkx with r | r
      · have := (a5 k q).1; omega
      · exact (a5 k q).2.2.2 r
    · rcases hkx with r | r
      · have := (a6 k q).1; omega
      · exact (a6 k q).2 r
/-- The last of those that are free. -/
theorem SkI.pop {p : Int} (h : SkI w0 t hb cb A0 N M0 X g wr D f fv (l ++ [p])) : ∃ gb cap, fv = .slice (some ⟨gb, 0, none⟩) (l.length + 1) cap ∧ gb < wr.heap.size ∧ l.length + 1 ≤ cap ∧ wr.cell? ⟨gb, l.length, none⟩ = some (.int .i64 p) ∧ SkI w0 t hb cb A0 N M0 X g wr D f (.slice (some ⟨gb, 0, none⟩) l.length cap) l := by
  obtain ⟨Ft, Fh, n, M, a1, a2, a3, a4, a5, a6, a7, a8, a9, a10⟩ := h.mem
  have a3' := a3
  rcases a3.2 with ⟨_, h0⟩ | ⟨gb, cap, cur, rfl, hbase, hh, h1, h2, h3, h4⟩
  · simp at h0
  have hl1 : (l ++ [p]).length = l.length + 1 := by simp
  rw [hl1, Nat.mul_one] at h4
  rw [hl1] at h1
  refine ⟨gb, cap, by rw [hl1], lt_of_block hh, h1, ?_, ⟨⟨Ft, Fh, n, M, a1, a2, ⟨by simp [Iy_length], .inr ⟨gb, cap, cur, rfl, hbase, hh, by omega, h2, h3, ?_⟩⟩, a4, a5, a6, a7, by omega, a9, a10⟩, fun th hth => h.wfl th (List.mem_append.2 (.inl hth)), h.wfr, h.ok, h.st, h.fit, h.wm, h.steps, h.below⟩⟩
  · rw [blk_cell hh, ← Array.getElem?_toList]
    have : (cur.toList.take (l.length + 1))[l.length]? = (Iy (l ++ [p]))[l.length]? := by rw [h4]
    rw [List.getElem?_take, if_pos (by omega)] at this
    rw [this, Iy_get _ _ (by simp)]
    simp [List.getD]
  · rw [Nat.mul_one]
    have : (cur.toList.take (l.length + 1)).take l.length = (Iy (l ++ [p])).take l.length := by rw [h4]
    rw [List.take_take, Nat.min_eq_left (by omega)] at this
    rw [this]
    simp [Iy]
/-- The things of a thread, as they lie. -/
theorem SkI.row (h : SkI w0 t hb cb A0 N M0 X g wr D f fv l) (p : Int) (hp : (Lit.int .i64 p).wf = true) : (Instr.lookup 71 (.map (some hb)) (.int .i64 p) false).run Try.prog wr = .ok (rowV f p) wr ∧ (∃ ao c, rowV f p = .slice ao (rowL f p).length c) ∧ ∀ k z, (rowL f p)[k]? = some z → ∃ gb cap, rowV f p = .slice (some ⟨gb, 0, none⟩) (rowL f p).length cap ∧ gb < wr.heap.size ∧ wr.cell? ⟨gb, k, none⟩ = some (.int .i64 z) := by
  obtain ⟨Ft, Fh, n, M, a1, a2, a3, a4, a5, a6, a7⟩ := h.mem
  have hr := a2.rowAt p
  refine ⟨a2.look hp, ?_, fun k z hk => ?_⟩
  · rcases hr.2 with ⟨e, h0⟩ | ⟨gb, cap, cur, e, _⟩
    · exact ⟨none, 0, by rw [e, h0]⟩
    · exact ⟨_, _, e⟩
  · have hkl := (List.getElem?_eq_some_iff.1 hk).1
    rcases hr.2 with ⟨e, h0⟩ | ⟨gb, cap, cur, e, hbase, hh, h1, h2, h3, h4⟩
    · omega
    · refine ⟨gb, cap, e, lt_of_block hh, ?_⟩
      rw [blk_cell hh, ← Array.getElem?_toList]
      have : (cur.toList.take ((rowL f p).length * 1))[k]? = (Iy (rowL f p))[k]? := by rw [h4]
      rw [List.getElem?_take, if_pos (by omega)] at this
      rw [this]
      unfold Iy
      rw [List.getElem?_map, hk]
      rfl
/-- A variable more. -/
theorem SkI.var (h : SkI w0 t hb cb A0 N M0 X g wr D f fv l) (o : Obj) : SkI w0 t hb cb A0 N M0 (fun k => X k ∨ k = wr.heap.size) g (wr.alloc o).drew D f fv l := by
  have hB : Below wr.heap.size wr (wr.alloc o).drew := ((Below.refl wr.heap.size wr).alloc (Nat.le_refl _) o).trans ((drew_below _).mono (by simp))
  obtain ⟨Ft, Fh, n, M, a1, a2, a3, a4, a5, a6, a7⟩ := h.mem
  have h1 := h.grow hB
  refine ⟨⟨Ft, Fh, n, M, a1.below hB, a2.only (Only.of_new (fun _ => False) hB) (fun _ _ _ q => q), owns_at a3 (fun k hk => hB.block k (own_lt a3 hk)), fun k hk => ?_, fun k hk => ?_, fun k hk => ⟨(a6 k hk).1, fun q => q.elim (a6 k hk).2 (fun q => by have := own_lt a3 hk; omega)⟩, a7⟩, h.wfl, h.wfr, h.ok, h.st, h.fit, h.wm, h.steps, h1.below⟩
  · obtain ⟨b1, b2, b3, b4, b5⟩ := a4 k hk
    exact ⟨b1, Nat.lt_of_lt_of_le b2 hB.size, b3, b4, fun q => q.elim b5 (fun q => by omega)⟩
  · obtain ⟨b1, b2, b3, b4⟩ := a5 k hk
    exact ⟨b1, Nat.lt_of_lt_of_le b2 hB.size, b3, fun q => q.elim b4 (fun q => by omega)⟩
theorem SkI.less {X' : Nat → Prop} (h : SkI w0 t hb cb A0 N M0 X g wr D f fv l) (hX : ∀ k, X' k → X k) : SkI w0 t hb cb A0 N M0 X' g wr D f fv l := by
  obtain ⟨Ft, Fh, n, M, a1, a2, a3, a4, a5, a6, a7⟩ := h.mem
  exact ⟨⟨Ft, Fh, n, M, a1, a2, a3, fun k hk => ⟨(a4 k hk).1, (a4 k hk).2.1, (a4 k hk).2.2.1, (a4 k hk).2.2.2.1, fun q => (a4 k hk).2.2.2.2 (hX k q)⟩, fun k hk => ⟨(a5 k hk).1, (a5 k hk).2.1, (a5 k hk).2.2.1, fun q => (a5 k hk).2.2.2 (hX k q)⟩, fun k hk => ⟨(a6 k hk).1, fun q => (a6 k hk).2 (hX k q)⟩, a7⟩, h.wfl, h.wfr, h.ok, h.st, h.fit, h.wm, h.steps, h.below⟩
open Classical in
/-- How many wait, as the map tells. -/
noncomputable def nwOf (wr : World) (cb : Nat) : Nat := if h : ∃ n, ∃ f, MAt wr 3 cb n f then Classical.choose h else 0
theorem nwOf_eq {wr : World} {cb n : Nat} {f : Lit → Option Value} (h : MAt wr 3 cb n f) : nwOf wr cb = n := by
  have he : ∃ n, ∃ f, MAt wr 3 cb n f := ⟨n, f, h⟩
  unfold nwOf
  rw [dif_pos he]
  obtain ⟨f', h'⟩ := Classical.choose_spec he
  have h1 := h.len Try.underlying52 3
  have h2 := h'.len Try.underlying52 3
  rw [h1] at h2
  have := (Result.ok.inj h2).1
  simp at this
  omega
theorem SkI.nw (h : SkI w0 t hb cb A0 N M0 X g wr D f fv l) : nwOf wr cb = D.nw := by
  obtain ⟨Ft, Fh, n, M, a1, a2, a3, a4, a5, a6, a7⟩ := h.mem
  have := a1.wmapAt
  rw [h.wm] at this
  exact nwOf_eq (show MAt wr 3 cb D.nw _ from this)
end
end Go.Proofs.Ytoediflikoedaaa
