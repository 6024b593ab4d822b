/-
  The model's get of a block that is not kept.
-/
import Derived.Test.YtmbhjheoomlggaaCaMod5
namespace Go.Proofs.Ytmbhjheoomlggaa
open Go Go.Proofs Go.RowKit Go.Shelf
def nwO (n : Int) (xg xc : Nat) : Obj := .cells #[.int .i64 n, .int .i64 0, .bool false, .slice (some ⟨xg, 0, none⟩) 1024 xc] 39
theorem new_row (W : World) (n : Int) (xg xc : Nat) (dat : List Int) : (W.alloc (nwO n xg xc)).ownsRow W.heap.size 39 4 (.slice (some ⟨W.heap.size, 0, none⟩) 1 1) [(⟨⟨n, 0, false, dat⟩, xg, xc⟩ : Md)].length (mdCs [⟨⟨n, 0, false, dat⟩, xg, xc⟩]) :=
  ⟨rfl, .inr ⟨W.heap.size, 1, _, rfl, Nat.le_refl _, blk_new W _, Nat.le_refl _, by unfold maxLen; omega, rfl, rfl⟩⟩
/-- A block more. -/
theorem mo_push {F : Nat → Prop} {W : World} {mm e size : Nat} {reads : Int} {ms : List Md} {lv : Value} (h : MoAt F W mm lv e size reads ms) (hl : ms.length < 1000000) (n : Int) (xg xc : Nat) (dat : List Int) (hrow : W.ownsRow 0 5 1 (.slice (some ⟨xg, 0, none⟩) 1024 xc) 1024 (By dat)) (hxF : F xg) :
    ∃ g' c' W', apR lv (.slice (some ⟨W.heap.size, 0, none⟩) 1 1) (.slice (some ⟨g', 0, none⟩) (ms.length + 1) c') (W.alloc (nwO n xg xc)) W' ∧ W'.cell? ⟨mm, 0, none⟩ = some lv ∧ W'.frozen? ⟨mm, 0, none⟩ = false ∧
      MoAt (fun k => F k ∨ W.heap.size ≤ k) (W'.setCell ⟨mm, 0, none⟩ (.slice (some ⟨g', 0, none⟩) (ms.length + 1) c')) mm (.slice (some ⟨g', 0, none⟩) (ms.length + 1) c') e size reads (ms ++ [⟨⟨n, 0, false, dat⟩, xg, xc⟩]) ∧ Only F W (W'.setCell ⟨mm, 0, none⟩ (.slice (some ⟨g', 0, none⟩) (ms.length + 1) c')) := by
  obtain ⟨i0, hi, hz0, hz1, hz2⟩ := info39p
  have hb1 : Below W.heap.size W (W.alloc (nwO n xg xc)) := (Below.refl _ W).alloc (Nat.le_refl _) _
  have s1 : (W.alloc (nwO n xg xc)).heap.size = W.heap.size + 1 := by simp
  have h1 := h.below hb1
  have oX := new_row W n xg xc dat
  have hmm := lt_of_block h.blk
  obtain ⟨g', c', W', hr, hown, hg, hg'⟩ := run_append_sep (P := Try.prog) (W.alloc (nwO n xg xc)) 29 29 39 i0 _ 4 48 Try.underlying29 hi hz0 hz1 hz2 rfl (by decide) lv ms.length (mdCs ms) h1.row ⟨W.heap.size, 0, none⟩ 1 1 (mdCs [⟨⟨n, 0, false, dat⟩, xg, xc⟩]) rfl (fun j u hj => oX.cells rfl j u hj) (mdCs_one _) (by unfold maxLen; omega) (by omega) (by omega)
  have hmr : ∀ k, lv.ownBlock = some k → k ≠ mm := fun k hk ee => by
    rcases h1.row.2 with ⟨hq, _⟩ | ⟨q, cap, cur, hq, _, hh, _⟩
    · rw [hq] at hk; simp [Value.ownBlock] at hk
    · rw [hq] at hk
      obtain rfl : q = k := by simpa [Value.ownBlock] using hk
      have := h1.blk
      rw [← ee, hh] at this
      simp at this
  have hkeep : ∀ k, k < W.heap.size → lv.ownBlock ≠ some k → W'.heap[k]? = W.heap[k]? := fun k hk hne => (hg.block k (by omega) (fun ee => hne ee.symm)).trans (hb1.block k hk)
  have hbm : W'.heap[mm]? = _ := (hkeep mm hmm (fun ee => hmr mm ee rfl)).trans h.blk
  have hs := hg.size
  refine ⟨g', c', W', hr, by rw [blk_cell hbm]; rfl, blk_free hbm 0, ⟨.inl h.fm, set_m0 hbm, ?_, fun k hk => ?_, fun m hm => ?_⟩, ?_⟩
  · rw [List.length_append, mdCs_append]
    refine owns_at hown (fun k hk => set_other _ _ _ _ ?_)
    obtain rfl : g' = k := by simpa [Value.ownBlock] using hk
    rcases hg' with h' | h'
    · exact hmr _ h'
    · omega
  · obtain rfl : g' = k := by simpa [Value.ownBlock] using hk
    rcases hg' with h' | h'
    · exact .inl (h.rowF _ h')
    · exact .inr (by omega)
  · have base : ∀ (q cap : Nat) (dt : List Int), W.ownsRow 0 5 1 (.slice (some ⟨q, 0, none⟩) 1024 cap) 1024 (By dt) → (W'.setCell ⟨mm, 0, none⟩ (.slice (some ⟨g', 0, none⟩) (ms.length + 1) c')).ownsRow 0 5 1 (.slice (some ⟨q, 0, none⟩) 1024 cap) 1024 (By dt) := fun q cap dt ho => by
      refine owns_at ho (fun k hk => ?_)
      obtain rfl : q = k := by simpa [Value.ownBlock] using hk
      obtain ⟨cu, hcu⟩ : ∃ cu, W.heap[q]? = some (.cells cu 5 (0, 0)) := by
        rcases ho.2 with ⟨hq, _⟩ | ⟨q', cap', cur, hq, _, hh, _⟩
        · cases hq
        · cases hq
          exact ⟨_, hh⟩
      have hqm : q ≠ mm := fun ee => by
        have := h.blk
        rw [← ee, hcu] at this
        simp at this
      rw [set_other _ _ _ _ hqm]
      refine hkeep q (lt_of_block hcu) (fun ee => ?_)
      rcases h.row.2 with ⟨hq, _⟩ | ⟨q', cap', cur, hq, _, hh, _⟩
      · rw [hq] at ee; simp [Value.ownBlock] at ee
      · rw [hq] at ee
        obtain rfl : q' = q := by simpa [Value.ownBlock] using ee
        rw [hcu] at hh
        simp at hh
    rcases List.mem_append.1 hm with hm | hm
    · exact ⟨base _ _ _ (h.dat m hm).1, .inl (h.dat m hm).2⟩
    · rw [List.mem_singleton.1 hm]
      exact ⟨base _ _ _ hrow, .inl hxF⟩
  · refine Only.setCell (p := ⟨mm, 0, none⟩) ⟨hg.os.trans hb1.os, hg.tape.trans hb1.tape, hg.output.trans hb1.output, by omega, fun k hk hn => hkeep k hk (fun ee => hn (h.rowF k ee))⟩ (.inl h.fm) _
theorem set_m3 {V : World} {mm : Nat} {v0 v1 v2 u e : Value} (hb : V.heap[mm]? = some (.cells #[v0, v1, v2, u] 31 (0, 0))) : (V.setCell ⟨mm, 3, none⟩ e).heap[mm]? = some (.cells #[v0, v1, v2, e] 31 (0, 0)) := by simpa using blk_set (i := 3) (u := e) hb
section
variable {F : Nat → Prop} {w : World} {mm e size : Nat} {reads : Int} {lv : Value} {ms : List Md}
theorem MoAt.rest {k : Nat} (h : MoAt F w mm lv e size reads ms) : (lv.ownBlock = some k → k ≠ mm) ∧ ∀ m ∈ ms, m.g ≠ mm := by
  refine ⟨fun hk ee => ?_, fun m hm ee => ?_⟩
  · rcases h.row.2 with ⟨hq, _⟩ | ⟨q, cap, cur, hq, _, hh, _⟩
    · rw [hq] at hk; simp [Value.ownBlock] at hk
    · rw [hq] at hk
      obtain rfl : q = k := by simpa [Value.ownBlock] using hk
      have := h.blk
      rw [← ee, hh] at this
      simp at this
  · rcases (h.dat m hm).1.2 with ⟨hq, _⟩ | ⟨q, cap, cur, hq, _, hh, _⟩
    · cases hq
    · cases hq
      have := h.blk
      rw [← ee, hh] at this
      simp at this
theorem MoAt.reads' (h : MoAt F w mm lv e size reads ms) (r : Int) : MoAt F (w.setCell ⟨mm, 3, none⟩ (.int .i64 r)) mm lv e size r ms ∧ Only F w (w.setCell ⟨mm, 3, none⟩ (.int .i64 r)) :=
  ⟨⟨h.fm, set_m3 h.blk, owns_at h.row (fun k hk => set_other _ _ _ _ (h.rest.1 hk)), h.rowF, fun m hm => ⟨owns_at (h.dat m hm).1 (fun k hk => by
      obtain rfl : m.g = k := by simpa [Value.ownBlock] using hk
      exact set_other _ _ _ _ (h.rest (k := 0).2 m hm)), (h.dat m hm).2⟩⟩, (Only.refl F w).setCell (p := ⟨mm, 3, none⟩) (.inl h.fm) _⟩
set_option maxRecDepth 100000 in
set_option maxHeartbeats 4000000 in
theorem mget_no (h : MoAt F w mm lv e size reads ms) (hl : ms.length < 1000000) (Fd : Nat → Prop) (s : Dk.DS) (hd : Dk.DiskAt Fd w e s) (hdis : ∀ k, F k → ¬ Fd k) (hi : s.img.length ≤ 20480000) (hr0 : 0 ≤ reads) (hr1 : reads ≤ 1000000) (n : Int) (hat : atI ms n = -1) (hno : (Dk.hasB s n && !s.dead) = false) :
    Calls Try.prog 13 #[ptV mm, .int .i64 n] w fun r w' => r = .returned (.tuple #[.slice none 0 0, .bool false]) ∧ ∃ lv' ms', MoAt (fun k => F k ∨ w.heap.size ≤ k) w' mm lv' e size (reads + 1) ms' ∧ ms'.map Md.kb = shk size (ms.map Md.kb) ∧ Only F w w' := by
  have HAT := Hid.mk (mat_any h (by omega) n)
  rw [hat] at HAT
  obtain ⟨c0, c1, c2, c3, f0, _, f3⟩ := mo_cells h.blk
  obtain ⟨g1, g2⟩ := h.reads' (reads + 1)
  have hd1 := hd.only g2 (fun k _ hk hf => hdis k hf hk)
  have HRD := Hid.mk (Dk.read_any Fd _ e s hd1 hi n)
  rw [hno] at HRD
  have HSH : Hid (∀ w2, Below (w.setCell ⟨mm, 3, none⟩ (.int .i64 (reads + 1))).heap.size (w.setCell ⟨mm, 3, none⟩ (.int .i64 (reads + 1))) w2 → Calls Try.prog 14 #[ptV mm] w2 fun r w' => r = .returned (.tuple #[]) ∧ ∃ lv' ms', MoAt (fun k => F k ∨ w.heap.size ≤ k) w' mm lv' e size (reads + 1) ms' ∧ ms'.map Md.kb = shk size (ms.map Md.kb) ∧ Only F w w') := Hid.mk (fun w2 hB => (mshrink_any (g1.below hB) rfl (by omega)).mono (by
    rintro r w' ⟨rfl, lv', ms', hM, hk, ho, _⟩
    have hs2 := hB.size
    have hsz : (w.setCell ⟨mm, 3, none⟩ (.int .i64 (reads + 1))).heap.size = w.heap.size := by simp
    exact ⟨rfl, lv', ms', hM.mono (fun k _ hk => hk.elim (fun h => .inl h.1) (fun h => .inr (by omega))), hk, (g2.trans (Only.of_new (fun _ => False) hB) (fun _ h => h.elim)).trans ho (fun _ h => .inl h)⟩))
  clear h hd hd1 g1 g2 hno hat
  go_enter Try.func13, Try.ntmps13
  go_wp2_with (first
    | (go_at_call 11; refine HAT.out.mono ?_; rintro e' w1 ⟨rfl, rfl⟩)
    | (go_at_call 27; refine HRD.out.mono ?_; rintro e' w2 ⟨xo, xn, xc, rfl, hB, _, _, _⟩; have HS2 := Hid.mk (HSH.out w2 hB); clear hB)
    | (go_at_call 14; refine HS2.out.mono ?_; rintro e' w3 ⟨rfl, h3⟩; have H3 := Hid.mk h3; clear h3 HS2))
  go_ret2
  exact ⟨rfl, H3.out⟩
end
end Go.Proofs.Ytmbhjheoomlggaa
