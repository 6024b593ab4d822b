/-
  The model's get.
-/
import Derived.Test.YtmbhjheoomlggaaCaMod4
import Derived.Deep.Cut
import Derived.Deep.CutRange
import Derived.Deep.CutBlock
namespace Go.Proofs.Ytmbhjheoomlggaa
open Go Go.Proofs Go.RowKit Go.Shelf
theorem exec_loadK {ev : Operand → Value} {oi : Oper} {p : Operand} {a : Addr} {ao : Option Addr} {l c : Nat} {W : World} (ho : oi.op = .load 29 p) (hp : ev p = .pointer (some a)) (hc : W.cell? a = some (.slice ao l c)) : (execOp ev oi).run Try.prog W = .ok (.value (.slice ao l c)) W := by
  unfold execOp
  rw [ho]
  simp [go_sem, hp, hc]
theorem exec_storeK {ev : Operand → Value} {oi : Oper} {p x : Operand} {a : Addr} {ao : Option Addr} {l c : Nat} {v : Value} {W : World} (ho : oi.op = .store 29 p x) (hp : ev p = .pointer (some a)) (hx : ev x = .slice ao l c) (hc : W.cell? a = some v) (hf : W.frozen? a = false) : (execOp ev oi).run Try.prog W = .ok .skip (W.setCell a (.slice ao l c)) := by
  refine exec_store ho hp hx ?_
  simp [go_sem, hc, hf]
abbrev XS (X : Nat) (x : Kb) (xg xc : Nat) (W : World) : Prop := W.cell? ⟨X, 0, none⟩ = some (.int .i64 x.num) ∧ W.cell? ⟨X, 1, none⟩ = some (.int .i64 ((x.pins : Int) + 1)) ∧ W.cell? ⟨X, 2, none⟩ = some (.bool x.dirty) ∧ W.cell? ⟨X, 3, none⟩ = some (.slice (some ⟨xg, 0, none⟩) 1024 xc)
/-- The model with another row, whose blocks' bytes it had. -/
theorem MoAt.reset' {F : Nat → Prop} {W W' : World} {mm e size : Nat} {reads : Int} {ms ms' : List Md} {lv v : Value} (h : MoAt F W mm lv e size reads ms) (hk : ∀ k, F k → k < W.heap.size → W'.heap[k]? = W.heap[k]?) (hrow : W'.ownsRow W.heap.size 39 4 v ms'.length (mdCs ms')) (hF : ∀ k, v.ownBlock = some k → F k) (hsub : ∀ m ∈ ms', (∃ m0 ∈ ms, m0.g = m.g ∧ m0.cap = m.cap ∧ m0.kb.dat = m.kb.dat) ∨ False) :
    MoAt F (W'.setCell ⟨mm, 0, none⟩ v) mm v e size reads ms' := by
  have h' := h.keep hk
  have hml := lt_of_block h.blk
  refine ⟨h.fm, set_m0 h'.blk, owns_at (owns_base hrow (Nat.zero_le _)) (fun k ek => set_other _ _ _ _ (by have := (hrow.lt k ek).1; omega)), hF, fun m hm => ?_⟩
  rcases hsub m hm with ⟨m0, hm0, e1, e2, e3⟩ | hf
  · rw [← e1, ← e2, ← e3]
    refine ⟨owns_at (h'.dat m0 hm0).1 (fun k ek => ?_), (h.dat m0 hm0).2⟩
    obtain rfl : m0.g = k := by simpa [Value.ownBlock] using ek
    refine set_other _ _ _ _ (fun e' => ?_)
    have hb := h'.blk
    rcases (h'.dat m0 hm0).1.2 with ⟨hq, _⟩ | ⟨g, cap, cur, hq, _, hh, _⟩
    · cases hq
    · cases hq
      rw [e', hb] at hh
      simp at hh
  · exact hf.elim
section
variable {F : Nat → Prop} {w : World} {mm e size : Nat} {reads : Int} {lv : Value} {ms : List Md}
set_option pp.deepTerms true in
set_option pp.maxSteps 1000000 in
set_option maxRecDepth 100000 in
set_option maxHeartbeats 4000000 in
theorem mget_found (h : MoAt F w mm lv e size reads ms) (hl : ms.length < 1000000) (n : Int) (k : Nat) (hk : k < ms.length) (hat : atI ms n = k) (hpin : (ms.getD k md0).kb.pins ≤ 1000000) :
    Calls Try.prog 13 #[ptV mm, .int .i64 n] w fun r w' => ∃ x xg xc, ms.getD k md0 = ⟨x, xg, xc⟩ ∧ r = .returned (.tuple #[.slice (some ⟨xg, 0, none⟩) 1024 xc, .bool true]) ∧ ∃ lv9 ms9, MoAt (fun q => (F q ∧ q < w.heap.size) ∨ w.heap.size ≤ q) w' mm lv9 e size reads ms9 ∧ ms9.map Md.kb = shk size ((ms.take k ++ ms.drop (k + 1)).map Md.kb ++ [x.by (x.pins + 1) x.dirty]) ∧ Only F w w' ∧ w'.ownsRow 0 5 1 (.slice (some ⟨xg, 0, none⟩) 1024 xc) 1024 (By x.dat) := by
  have HAT := Hid.mk (mat_any h (by omega) n)
  rw [hat] at HAT
  have hk0 : ¬ ((k : Nat) : Int) < 0 := by omega
  obtain ⟨c0, c1, c2, c3, f0, _, f3⟩ := mo_cells h.blk
  obtain ⟨g, vc, hv, hcap, hFg, hgl, hgm, hcells⟩ := h.cells (by omega)
  subst hv
  obtain ⟨d0, d1, d2, d3, _⟩ := hcells k hk
  obtain ⟨x, xg, xc, hx⟩ : ∃ x xg xc, ms.getD k md0 = ⟨x, xg, xc⟩ := ⟨_, _, _, rfl⟩
  rw [hx] at d0 d1 d2 d3 hpin
  simp only at d0 d1 d2 d3 hpin
  have hki : ((k : Nat) : Int) < (ms.length : Int) := by omega
  have hwp : IntKind.i64.wrap ((x.pins : Int) + 1) = (((x.pins + 1 : Nat)) : Int) := by rw [IntKind.wrap_i64]; omega
  have hwk : IntKind.i64.wrap ((k : Int) + 1) = (k : Int) + 1 := by rw [IntKind.wrap_i64]; omega
  have hw2 : (k : Int) + 1 ≤ (ms.length : Int) := by omega
  have hw3 : (k : Int) ≤ (vc : Int) := by omega
  have HH := Hid.mk h
  have HCE := Hid.mk hcells
  clear h hcells hat
  go_enter Try.func13, Try.ntmps13
  go_upto_region 12 with (go_at_call 11; refine HAT.out.mono ?_; rintro e' w1 ⟨rfl, rfl⟩)
  obtain ⟨X, hX⟩ : ∃ X, X = w1.heap.size := ⟨_, rfl⟩
  generalize hWa : World.alloc w1 _ = Wa
  have hBa : Below w1.heap.size w1 Wa := by rw [← hWa]; exact (Below.refl _ w1).alloc (Nat.le_refl _) _
  have hXa : Wa.heap[X]? = some (kpO x xg xc) := by rw [← hWa, hX]; exact blk_new w1 _
  have hsa : Wa.heap.size = w1.heap.size + 1 := by rw [← hWa]; simp
  rw [← hX]
  have hMa := HH.out.below hBa
  obtain ⟨v1, W1, _, _, _, _, r1, _, _, g1, _, _, _, o1, _, _⟩ := mo_cut hMa (by omega) k hk g vc rfl
  obtain ⟨vo1, n1, vc1, hv1⟩ : ∃ vo1 n1 vc1, v1 = .slice vo1 n1 vc1 := by
    rcases o1.2 with ⟨hq, _⟩ | ⟨q, cap, cur, hq, _⟩
    · exact ⟨_, _, _, hq⟩
    · exact ⟨_, _, _, hq⟩
  have hB1 : Below Wa.heap.size Wa W1 := (Below.refl _ Wa).grown g1 (Nat.le_refl _) (by simp)
  have hM1 := hMa.below hB1
  have hX1 : W1.heap[X]? = some (kpO x xg xc) := (hB1.block X (by omega)).trans hXa
  have hs1 := hB1.size
  obtain ⟨W0, hW0⟩ : ∃ W0, W0 = W1.drew := ⟨_, rfl⟩
  have hM0 : MoAt F W0 mm (.slice (some ⟨g, 0, none⟩) ms.length vc) e size reads ms := by rw [hW0]; exact hM1.keep (fun _ _ _ => rfl)
  have hX0 : W0.heap[X]? = some (kpO x xg xc) := by rw [hW0]; exact hX1
  have hs0 : W0.heap.size = W1.heap.size := by rw [hW0]; rfl
  have o10 : W0.ownsRow 0 39 4 v1 (ms.drop (k + 1)).length (mdCs (ms.drop (k + 1))) := owns_base (owns_at o1 (fun _ _ => by rw [hW0]; rfl)) (Nat.zero_le _)
  have hv10 : ∀ q, v1.ownBlock = some q → q < W0.heap.size := fun q hq => by rw [hs0]; exact (o1.lt q hq).2
  have hs := hM0.row.cells rfl
  have hg0 : g < W0.heap.size := by omega
  have hmm0 : mm < W0.heap.size := lt_of_block hM0.blk
  have hXm : X ≠ mm := fun ee => by
    have := hM0.blk
    rw [← ee, hX0] at this
    simp [kpO] at this
  obtain ⟨v2A, W2A, v3A, W3A, v4A, W4A, r2A, r3A, r4A, o4A, bA, b2A, b3A, b4A⟩ := ord_a (vc := vc) (x := x) (xg := xg) (xc := xc) hs hg0 hk hl o10 hv10
  obtain ⟨v2B, W2B, v3B, W3B, v4B, W4B, r2B, r3B, r4B, o4B, b2B, bB, b3B, b4B⟩ := ord_b (vc := vc) (x := x) (xg := xg) (xc := xc) hs hk hl o10 hv10
  obtain ⟨v2C, W2C, v3C, W3C, v4C, W4C, r2C, r3C, r4C, o4C, b2C, b3C, bC, b4C⟩ := ord_c (vc := vc) (x := x) (xg := xg) (xc := xc) hs hk hl o10 hv10
  have hdet := r2B.symm.trans r2C
  obtain ⟨rfl, rfl⟩ : v2B = v2C ∧ W2B = W2C := by
    cases hdet
    exact ⟨rfl, rfl⟩
  have hpos4 : 0 < (ms.take k ++ ms.drop (k + 1) ++ [(⟨x.by (x.pins + 1) x.dirty, xg, xc⟩ : Md)]).length := by simp; omega
  have hxs : ∀ W', Below W0.heap.size W0 W' → XS X x xg xc W' := fun W' hB => by
    have hb : W'.heap[X]? = some (kpO x xg xc) := (hB.block X (by omega)).trans hX0
    exact ⟨by rw [blk_cell hb]; rfl, by rw [blk_cell hb]; rfl, by rw [blk_cell hb]; rfl, by rw [blk_cell hb]; rfl⟩
  have hml : ∀ W', Below W0.heap.size W0 W' → W'.heap[mm]? = _ := fun W' hB => (hB.block mm hmm0).trans hM0.blk
  have hdatx : (⟨x.by (x.pins + 1) x.dirty, xg, xc⟩ : Md).g = xg := rfl
  have hfinal : ∀ (v4 : Value) (W4 : World), W4.ownsRow W0.heap.size 39 4 v4 (ms.take k ++ ms.drop (k + 1) ++ [(⟨x.by (x.pins + 1) x.dirty, xg, xc⟩ : Md)]).length (mdCs (ms.take k ++ ms.drop (k + 1) ++ [⟨x.by (x.pins + 1) x.dirty, xg, xc⟩])) → Below W0.heap.size W0 W4 →
      ∃ vo4 n4 vc4, v4 = .slice vo4 n4 vc4 ∧ W4.cell? ⟨mm, 0, none⟩ = some (.slice (some ⟨g, 0, none⟩) ms.length vc) ∧ W4.frozen? ⟨mm, 0, none⟩ = false ∧ XS X x xg xc (W4.setCell ⟨mm, 0, none⟩ v4) ∧ (W4.setCell ⟨mm, 0, none⟩ v4).cell? ⟨X, 3, none⟩ = some (.slice (some ⟨xg, 0, none⟩) 1024 xc) ∧
        Calls Try.prog 14 #[ptV mm] (W4.setCell ⟨mm, 0, none⟩ v4) fun r w9 => r = .returned (.tuple #[]) ∧ w9.cell? ⟨X, 3, none⟩ = some (.slice (some ⟨xg, 0, none⟩) 1024 xc) ∧ (fun w9 => ∃ lv9 ms9, MoAt (fun q => (F q ∧ q < w1.heap.size) ∨ w1.heap.size ≤ q) w9 mm lv9 e size reads ms9 ∧ ms9.map Md.kb = shk size ((ms.take k ++ ms.drop (k + 1)).map Md.kb ++ [x.by (x.pins + 1) x.dirty]) ∧ Only F w1 w9 ∧ w9.ownsRow 0 5 1 (.slice (some ⟨xg, 0, none⟩) 1024 xc) 1024 (By x.dat)) w9 := fun v4 W4 o4 b4 => by
    obtain ⟨g4, c4, cur4, hv4, _, _, hg4, hh4, _, _⟩ := owns_kept o4 hpos4
    have hbm := hml W4 b4
    have hxx := hxs W4 b4
    have hbX : W4.heap[X]? = some (kpO x xg xc) := (b4.block X (by omega)).trans hX0
    have hbX5 : (W4.setCell ⟨mm, 0, none⟩ v4).heap[X]? = some (kpO x xg xc) := (set_other _ _ _ _ hXm).trans hbX
    have hs4 := b4.size
    have hM4 : MoAt (fun q => (F q ∧ q < w1.heap.size) ∨ q = g4) (W4.setCell ⟨mm, 0, none⟩ v4) mm v4 e size reads (ms.take k ++ ms.drop (k + 1) ++ [⟨x.by (x.pins + 1) x.dirty, xg, xc⟩]) := by
      have hM0' : MoAt (fun q => (F q ∧ q < w1.heap.size) ∨ q = g4) W0 mm (.slice (some ⟨g, 0, none⟩) ms.length vc) e size reads ms := by
        have := HH.out.mono (H := fun q => F q ∧ q < w1.heap.size) (fun q hq hf => ⟨hf, hq⟩)
        exact ((this.keep (fun q hf hq => by rw [hW0]; exact (hB1.block q (by omega)).trans (hBa.block q hq)) : MoAt _ W0 mm (.slice (some ⟨g, 0, none⟩) ms.length vc) e size reads ms)).mono (fun q _ hq => .inl hq)
      have := MoAt.reset' hM0' (fun q _ hq => b4.block q hq) o4 (fun q hq => by rw [hv4] at hq; exact .inr (by simpa [Value.ownBlock] using hq.symm)) (fun m hm => by
        rcases List.mem_append.1 hm with hm | hm
        · rcases List.mem_append.1 hm with hm | hm
          · exact .inl ⟨m, List.mem_of_mem_take hm, rfl, rfl, rfl⟩
          · exact .inl ⟨m, List.mem_of_mem_drop hm, rfl, rfl, rfl⟩
        · rw [List.mem_singleton.1 hm]
          exact .inl ⟨⟨x, xg, xc⟩, by rw [← hx]; simp [List.getD, List.getElem?_eq_getElem hk], rfl, rfl, rfl⟩)
      exact this
    refine ⟨_, _, _, hv4, by rw [blk_cell hbm]; rfl, blk_free hbm 0, ⟨by rw [blk_cell hbX5]; rfl, by rw [blk_cell hbX5]; rfl, by rw [blk_cell hbX5]; rfl, by rw [blk_cell hbX5]; rfl⟩, by rw [blk_cell hbX5]; rfl, ?_⟩
    refine (mshrink_any hM4 rfl (by simp; omega)).mono ?_
    rintro r w9 ⟨rfl, lv9, ms9, hM9, hk9, ho9, hkp9⟩
    have hnX : ¬ ((F X ∧ X < w1.heap.size) ∨ X = g4) := by
      rintro (h | h)
      · have := h.2; omega
      · omega
    have hlt4 : X < (W4.setCell ⟨mm, 0, none⟩ v4).heap.size := lt_of_block hbX5
    refine ⟨rfl, by rw [blk_cell ((ho9.block X hlt4 hnX).trans hbX5)]; rfl, lv9, ms9, hM9.mono (fun q hq hf => ?_), ?_, ?_, ?_⟩
    · rcases hf with ⟨(h | h), _⟩ | h
      · exact .inl h
      · exact .inr (by omega)
      · have hsz : (W4.setCell ⟨mm, 0, none⟩ v4).heap.size = W4.heap.size := by simp
        exact .inr (by omega)
    · rw [hk9, List.map_append]; rfl
    · have ob : Only F w1 (W4.setCell ⟨mm, 0, none⟩ v4) := ((Only.of_new F (hBa.trans ((hB1.mono (by omega)).trans (show Below w1.heap.size W1 W4 from by have := b4.mono (show w1.heap.size ≤ W0.heap.size by omega); rw [hW0] at this; exact (Below.refl _ W1).drew.trans this))))).setCell (p := ⟨mm, 0, none⟩) (.inl HH.out.fm) _
      exact ob.trans ho9 (fun q hq => hq.elim (fun h => .inl h.1) (fun h => .inr (by omega)))
    · have hmem := hkp9 ⟨x.by (x.pins + 1) x.dirty, xg, xc⟩ (by simp) (idle_false (.inl (show 0 < x.pins + 1 by omega)))
      exact (hM9.dat _ hmem).1
  obtain ⟨vo4A, n4A, vc4A, hv4A, eA1, eA2, eA3, eA4, eA5⟩ := hfinal v4A W4A o4A b4A
  obtain ⟨vo4B, n4B, vc4B, hv4B, eB1, eB2, eB3, eB4, eB5⟩ := hfinal v4B W4B o4B b4B
  obtain ⟨vo4C, n4C, vc4C, hv4C, eC1, eC2, eC3, eC4, eC5⟩ := hfinal v4C W4C o4C b4C
  subst hv4A
  subst hv4B
  subst hv4C
  subst hv1
  have HR1 := Hid.mk r1
  have HW0 := Hid.mk hW0
  have HXS := Hid.mk hxs
  have HX0 : Hid (XS X x xg xc W1.drew) := Hid.mk (by rw [← hW0]; exact hxs W0 (Below.refl _ _))
  have HML0 : Hid (W0.cell? ⟨mm, 0, none⟩ = some (.slice (some ⟨g, 0, none⟩) ms.length vc)) := Hid.mk (by rw [blk_cell hM0.blk]; rfl)
  have HMLA : Hid ((W0.alloc (kpO x xg xc)).cell? ⟨mm, 0, none⟩ = some (.slice (some ⟨g, 0, none⟩) ms.length vc)) := Hid.mk (by rw [blk_cell (hml _ bA)]; rfl)
  have HSA := Hid.mk (And.intro (hxs _ bA) (And.intro (hxs _ b2A) (And.intro (hxs _ b3A) (hxs _ b4A))))
  have HSB := Hid.mk (And.intro (hxs _ b2B) (And.intro (hxs _ bB) (And.intro (hxs _ b3B) (hxs _ b4B))))
  have HSC := Hid.mk (And.intro (hxs _ b3C) (And.intro (hxs _ bC) (hxs _ b4C)))
  have HR2A := Hid.mk r2A
  have HR3A := Hid.mk r3A
  have HR4A := Hid.mk r4A
  have HR2B := Hid.mk r2B
  have HR3B := Hid.mk r3B
  have HR4B := Hid.mk r4B
  have HR3C := Hid.mk r3C
  have HR4C := Hid.mk r4C
  have HEA := Hid.mk (And.intro eA1 (And.intro eA2 (And.intro eA3 (And.intro eA4 (And.intro eA5 True.intro)))))
  have HEB := Hid.mk (And.intro eB1 (And.intro eB2 (And.intro eB3 (And.intro eB4 (And.intro eB5 True.intro)))))
  have HEC := Hid.mk (And.intro eC1 (And.intro eC2 (And.intro eC3 (And.intro eC4 (And.intro eC5 True.intro)))))
  have cM : Wa.cell? ⟨mm, 0, none⟩ = some (.slice (some ⟨g, 0, none⟩) ms.length vc) := by rw [blk_cell hMa.blk]; rfl
  clear hfinal hxs hml eA1 eA2 eA3 eA4 eA5 eB1 eB2 eB3 eB4 eB5 eC1 eC2 eC3 eC4 eC5 r1 r2A r3A r4A r2B r3B r4B r2C r3C r4C o4A o4B o4C bA b2A b3A b4A b2B bB b3B b4B b2C b3C bC b4C hdet hpos4 hdatx hs hM0 hX0 o10 hv10 o1 g1 hM1 hX1 hMa hXa hB1 hBa hWa hW0 hs0 hs1 hsa hX
  have HX9 := Hid.mk hx
  have hw4 : ¬ (vc : Int) < (k : Int) := by omega
  have hw5 : ¬ vc < k := by omega
  clear hx
  by_cases hvc : vc = k + 1
  · subst hvc
    rw [if_pos rfl, Nat.sub_self, show ms.length - (k + 1) = 0 by omega] at HR1
    go_wp2_with (at_builtin; have hgd := HR1; refine wpList_append_known rfl _ _ _ rfl _ _ _ _ rfl rfl HR1.out ?_; simp only [Act.put, List.setIfInBounds_toArray, List.set_cons_zero, List.set_cons_succ]; clear HR1 hgd)
    refine wp_region_held_drew (S := XS X x xg xc) (by kernel_rfl) HX0.out (fun hH => ?_)
    change wpAnyH Try.prog Region.Mode.any _ _ _ 16 _ _ _
    rw [← HW0.out] at hH ⊢
    refine takeH 0 73 (ptV mm) rfl (by kernel_rfl) (by kernel_rfl) (by kernel_rfl) (by kernel_rfl) (fun _ _ _ h => h) (by kernel_rfl) (fun w hw => by kernel_rfl) hH ?_
    simp only [List.setIfInBounds_toArray, List.set_cons_zero, List.set_cons_succ]
    refine takeH 1 74 (ptV mm) rfl (by kernel_rfl) (by kernel_rfl) (by kernel_rfl) (by kernel_rfl) (fun _ _ _ h => h) (by kernel_rfl) (fun w hw => by kernel_rfl) hH ?_
    simp only [List.setIfInBounds_toArray, List.set_cons_zero, List.set_cons_succ]
    refine takeH 2 75 (ptV mm) rfl (by kernel_rfl) (by kernel_rfl) (by kernel_rfl) (by kernel_rfl) (fun _ _ _ h => h) (by kernel_rfl) (fun w hw => by (try dsimp only at hw); go_simp) hH ?_
    simp only [List.setIfInBounds_toArray, List.set_cons_zero, List.set_cons_succ]
    refine takeH 3 76 (.pointer (some ⟨mm, 0, none⟩)) rfl (by kernel_rfl) (by kernel_rfl) (by kernel_rfl) (by kernel_rfl) (fun _ _ _ h => h) (by kernel_rfl) (fun w hw => by (try dsimp only at hw); go_simp) hH ?_
    simp only [List.setIfInBounds_toArray, List.set_cons_zero, List.set_cons_succ]
    refine takeH 5 78 (.int .i64 k) rfl (by kernel_rfl) (by kernel_rfl) (by kernel_rfl) (by kernel_rfl) (fun _ _ _ h => h) (by kernel_rfl) (fun w hw => by kernel_rfl) hH ?_
    simp only [List.setIfInBounds_toArray, List.set_cons_zero, List.set_cons_succ]
    refine takeH 8 81 (.slice vo1 n1 vc1) rfl (by kernel_rfl) (by kernel_rfl) (by kernel_rfl) (by kernel_rfl) (fun _ _ _ h => h) (by kernel_rfl) (fun w hw => by kernel_rfl) hH ?_
    simp only [List.setIfInBounds_toArray, List.set_cons_zero, List.set_cons_succ]
    refine takeH 10 83 (kpV x xg xc) rfl (by kernel_rfl) (by kernel_rfl) (by kernel_rfl) (by kernel_rfl) (fun _ _ _ h => h) (by kernel_rfl) (fun w hw => by (try dsimp only at hw); unfold kpV; go_simp) hH ?_
    simp only [List.setIfInBounds_toArray, List.set_cons_zero, List.set_cons_succ]
    refine stepH_two 4 11 (by kernel_rfl) ?_ ?_
    · refine opH_run 4 77 (.slice (some ⟨g, 0, none⟩) ms.length (k + 1)) W0 rfl (by kernel_rfl) (by kernel_rfl) (exec_loadK (p := .tmp 76) (by kernel_rfl) (by kernel_rfl) (HML0.out)) hH ?_
      simp only [List.setIfInBounds_toArray, List.set_cons_zero, List.set_cons_succ]
      refine stepH_two 6 11 (by kernel_rfl) ?_ ?_
      · refine opH_run 6 79 (.slice (some ⟨g, 0, none⟩) k (k + 1)) W0 rfl (by kernel_rfl) (by kernel_rfl) (by first | (go_simp; done) | (go_simp; intro hkk; omega)) hH ?_
        simp only [List.setIfInBounds_toArray, List.set_cons_zero, List.set_cons_succ]
        refine stepH_two 7 11 (by kernel_rfl) ?_ ?_
        · refine opH_run 7 80 v2B W2B rfl (by kernel_rfl) (by kernel_rfl) (exec_append (s := .const (.slice none 0 0)) (x := .tmp 79) (by kernel_rfl) (by kernel_rfl) (by kernel_rfl) HR2B.out) HSB.out.1 ?_
          simp only [List.setIfInBounds_toArray, List.set_cons_zero, List.set_cons_succ]
          refine stepH_two 9 11 (by kernel_rfl) ?_ ?_
          · refine opH_run 9 82 v3C W3C rfl (by kernel_rfl) (by kernel_rfl) (exec_append (s := .tmp 80) (x := .tmp 81) (by kernel_rfl) (by kernel_rfl) (by kernel_rfl) HR3C.out) HSC.out.1 ?_
            simp only [List.setIfInBounds_toArray, List.set_cons_zero, List.set_cons_succ]
            refine stepH_run 11 84 (.slice (some ⟨W3C.heap.size, 0, none⟩) 1 1) (W3C.alloc (kpO x xg xc)) rfl (by kernel_rfl) (by kernel_rfl) (by kernel_rfl) (exec_oneK (p := .tmp 83) (by kernel_rfl) (by kernel_rfl)) HSC.out.2.1 ?_
            simp only [List.setIfInBounds_toArray, List.set_cons_zero, List.set_cons_succ]
            refine stepH_run 12 85 (.slice vo4C n4C vc4C) W4C rfl (by kernel_rfl) (by kernel_rfl) (by kernel_rfl) (exec_append (s := .tmp 82) (x := .tmp 84) (by kernel_rfl) (by kernel_rfl) (by kernel_rfl) HR4C.out) HSC.out.2.2 ?_
            simp only [List.setIfInBounds_toArray, List.set_cons_zero, List.set_cons_succ]
            refine takeH 13 86 (ptV mm) rfl (by kernel_rfl) (by kernel_rfl) (by kernel_rfl) (by kernel_rfl) (fun _ _ _ h => h) (by kernel_rfl) (fun w hw => by (try dsimp only at hw); go_simp) HSC.out.2.2 ?_
            simp only [List.setIfInBounds_toArray, List.set_cons_zero, List.set_cons_succ]
            refine takeH 14 87 (.pointer (some ⟨mm, 0, none⟩)) rfl (by kernel_rfl) (by kernel_rfl) (by kernel_rfl) (by kernel_rfl) (fun _ _ _ h => h) (by kernel_rfl) (fun w hw => by (try dsimp only at hw); go_simp) HSC.out.2.2 ?_
            simp only [List.setIfInBounds_toArray, List.set_cons_zero, List.set_cons_succ]
            refine stepH_one 15 (by kernel_rfl) ?_
            refine opH_store 15 (W4C.setCell ⟨mm, 0, none⟩ (.slice vo4C n4C vc4C)) rfl (by kernel_rfl) (by kernel_rfl) (exec_storeK (p := .tmp 87) (x := .tmp 85) (by kernel_rfl) (by kernel_rfl) (by kernel_rfl) HEC.out.1 HEC.out.2.1) HEC.out.2.2.1 ?_
            refine wpAnyH_done (by kernel_rfl) ?_ _
            obtain ⟨z3, hfin⟩ := HEC.out.2.2.2
            generalize W4C.setCell ⟨mm, 0, none⟩ (.slice vo4C n4C vc4C) = W6 at *
            have HFIN := Hid.mk hfin
            clear hfin hH
            clear HSA HSB HSC HR2A HR3A HR4A HR2B HR3B HR4B HR3C HR4C HEA HEB HEC HX0 HW0 HML0 HMLA HXS
            go_wp2_with (go_at_call 14; refine HFIN.out.1.mono ?_; rintro e' w9 ⟨rfl, hz9, h9⟩; have H9 := Hid.mk h9; clear h9)
            go_ret2
            exact ⟨x, xg, xc, HX9.out, rfl, H9.out⟩
          · refine opH_run 11 84 (.slice (some ⟨W2B.heap.size, 0, none⟩) 1 1) (W2B.alloc (kpO x xg xc)) rfl (by kernel_rfl) (by kernel_rfl) (exec_oneK (p := .tmp 83) (by kernel_rfl) (by kernel_rfl)) HSB.out.2.1 ?_
            simp only [List.setIfInBounds_toArray, List.set_cons_zero, List.set_cons_succ]
            refine stepH_run 9 82 v3B W3B rfl (by kernel_rfl) (by kernel_rfl) (by kernel_rfl) (exec_append (s := .tmp 80) (x := .tmp 81) (by kernel_rfl) (by kernel_rfl) (by kernel_rfl) HR3B.out) HSB.out.2.2.1 ?_
            simp only [List.setIfInBounds_toArray, List.set_cons_zero, List.set_cons_succ]
            refine stepH_run 12 85 (.slice vo4B n4B vc4B) W4B rfl (by kernel_rfl) (by kernel_rfl) (by kernel_rfl) (exec_append (s := .tmp 82) (x := .tmp 84) (by kernel_rfl) (by kernel_rfl) (by kernel_rfl) HR4B.out) HSB.out.2.2.2 ?_
            simp only [List.setIfInBounds_toArray, List.set_cons_zero, List.set_cons_succ]
            refine takeH 13 86 (ptV mm) rfl (by kernel_rfl) (by kernel_rfl) (by kernel_rfl) (by kernel_rfl) (fun _ _ _ h => h) (by kernel_rfl) (fun w hw => by (try dsimp only at hw); go_simp) HSB.out.2.2.2 ?_
            simp only [List.setIfInBounds_toArray, List.set_cons_zero, List.set_cons_succ]
            refine takeH 14 87 (.pointer (some ⟨mm, 0, none⟩)) rfl (by kernel_rfl) (by kernel_rfl) (by kernel_rfl) (by kernel_rfl) (fun _ _ _ h => h) (by kernel_rfl) (fun w hw => by (try dsimp only at hw); go_simp) HSB.out.2.2.2 ?_
            simp only [List.setIfInBounds_toArray, List.set_cons_zero, List.set_cons_succ]
            refine stepH_one 15 (by kernel_rfl) ?_
            refine opH_store 15 (W4B.setCell ⟨mm, 0, none⟩ (.slice vo4B n4B vc4B)) rfl (by kernel_rfl) (by kernel_rfl) (exec_storeK (p := .tmp 87) (x := .tmp 85) (by kernel_rfl) (by kernel_rfl) (by kernel_rfl) HEB.out.1 HEB.out.2.1) HEB.out.2.2.1 ?_
            refine wpAnyH_done (by kernel_rfl) ?_ _
            obtain ⟨z3, hfin⟩ := HEB.out.2.2.2
            generalize W4B.setCell ⟨mm, 0, none⟩ (.slice vo4B n4B vc4B) = W6 at *
            have HFIN := Hid.mk hfin
            clear hfin hH
            clear HSA HSB HSC HR2A HR3A HR4A HR2B HR3B HR4B HR3C HR4C HEA HEB HEC HX0 HW0 HML0 HMLA HXS
            go_wp2_with (go_at_call 14; refine HFIN.out.1.mono ?_; rintro e' w9 ⟨rfl, hz9, h9⟩; have H9 := Hid.mk h9; clear h9)
            go_ret2
            exact ⟨x, xg, xc, HX9.out, rfl, H9.out⟩
        · refine opH_run 11 84 (.slice (some ⟨W0.heap.size, 0, none⟩) 1 1) (W0.alloc (kpO x xg xc)) rfl (by kernel_rfl) (by kernel_rfl) (exec_oneK (p := .tmp 83) (by kernel_rfl) (by kernel_rfl)) HSA.out.1 ?_
          simp only [List.setIfInBounds_toArray, List.set_cons_zero, List.set_cons_succ]
          refine stepH_run 7 80 v2A W2A rfl (by kernel_rfl) (by kernel_rfl) (by kernel_rfl) (exec_append (s := .const (.slice none 0 0)) (x := .tmp 79) (by kernel_rfl) (by kernel_rfl) (by kernel_rfl) HR2A.out) HSA.out.2.1 ?_
          simp only [List.setIfInBounds_toArray, List.set_cons_zero, List.set_cons_succ]
          refine stepH_run 9 82 v3A W3A rfl (by kernel_rfl) (by kernel_rfl) (by kernel_rfl) (exec_append (s := .tmp 80) (x := .tmp 81) (by kernel_rfl) (by kernel_rfl) (by kernel_rfl) HR3A.out) HSA.out.2.2.1 ?_
          simp only [List.setIfInBounds_toArray, List.set_cons_zero, List.set_cons_succ]
          refine stepH_run 12 85 (.slice vo4A n4A vc4A) W4A rfl (by kernel_rfl) (by kernel_rfl) (by kernel_rfl) (exec_append (s := .tmp 82) (x := .tmp 84) (by kernel_rfl) (by kernel_rfl) (by kernel_rfl) HR4A.out) HSA.out.2.2.2 ?_
          simp only [List.setIfInBounds_toArray, List.set_cons_zero, List.set_cons_succ]
          refine takeH 13 86 (ptV mm) rfl (by kernel_rfl) (by kernel_rfl) (by kernel_rfl) (by kernel_rfl) (fun _ _ _ h => h) (by kernel_rfl) (fun w hw => by (try dsimp only at hw); go_simp) HSA.out.2.2.2 ?_
          simp only [List.setIfInBounds_toArray, List.set_cons_zero, List.set_cons_succ]
          refine takeH 14 87 (.pointer (some ⟨mm, 0, none⟩)) rfl (by kernel_rfl) (by kernel_rfl) (by kernel_rfl) (by kernel_rfl) (fun _ _ _ h => h) (by kernel_rfl) (fun w hw => by (try dsimp only at hw); go_simp) HSA.out.2.2.2 ?_
          simp only [List.setIfInBounds_toArray, List.set_cons_zero, List.set_cons_succ]
          refine stepH_one 15 (by kernel_rfl) ?_
          refine opH_store 15 (W4A.setCell ⟨mm, 0, none⟩ (.slice vo4A n4A vc4A)) rfl (by kernel_rfl) (by kernel_rfl) (exec_storeK (p := .tmp 87) (x := .tmp 85) (by kernel_rfl) (by kernel_rfl) (by kernel_rfl) HEA.out.1 HEA.out.2.1) HEA.out.2.2.1 ?_
          refine wpAnyH_done (by kernel_rfl) ?_ _
          obtain ⟨z3, hfin⟩ := HEA.out.2.2.2
          generalize W4A.setCell ⟨mm, 0, none⟩ (.slice vo4A n4A vc4A) = W6 at *
          have HFIN := Hid.mk hfin
          clear hfin hH
          clear HSA HSB HSC HR2A HR3A HR4A HR2B HR3B HR4B HR3C HR4C HEA HEB HEC HX0 HW0 HML0 HMLA HXS
          go_wp2_with (go_at_call 14; refine HFIN.out.1.mono ?_; rintro e' w9 ⟨rfl, hz9, h9⟩; have H9 := Hid.mk h9; clear h9)
          go_ret2
          exact ⟨x, xg, xc, HX9.out, rfl, H9.out⟩
      · refine opH_run 11 84 (.slice (some ⟨W0.heap.size, 0, none⟩) 1 1) (W0.alloc (kpO x xg xc)) rfl (by kernel_rfl) (by kernel_rfl) (exec_oneK (p := .tmp 83) (by kernel_rfl) (by kernel_rfl)) HSA.out.1 ?_
        simp only [List.setIfInBounds_toArray, List.set_cons_zero, List.set_cons_succ]
        refine stepH_run 6 79 (.slice (some ⟨g, 0, none⟩) k (k + 1)) (W0.alloc (kpO x xg xc)) rfl (by kernel_rfl) (by kernel_rfl) (by kernel_rfl) (by first | (go_simp; done) | (go_simp; intro hkk; omega)) HSA.out.1 ?_
        simp only [List.setIfInBounds_toArray, List.set_cons_zero, List.set_cons_succ]
        refine stepH_run 7 80 v2A W2A rfl (by kernel_rfl) (by kernel_rfl) (by kernel_rfl) (exec_append (s := .const (.slice none 0 0)) (x := .tmp 79) (by kernel_rfl) (by kernel_rfl) (by kernel_rfl) HR2A.out) HSA.out.2.1 ?_
        simp only [List.setIfInBounds_toArray, List.set_cons_zero, List.set_cons_succ]
        refine stepH_run 9 82 v3A W3A rfl (by kernel_rfl) (by kernel_rfl) (by kernel_rfl) (exec_append (s := .tmp 80) (x := .tmp 81) (by kernel_rfl) (by kernel_rfl) (by kernel_rfl) HR3A.out) HSA.out.2.2.1 ?_
        simp only [List.setIfInBounds_toArray, List.set_cons_zero, List.set_cons_succ]
        refine stepH_run 12 85 (.slice vo4A n4A vc4A) W4A rfl (by kernel_rfl) (by kernel_rfl) (by kernel_rfl) (exec_append (s := .tmp 82) (x := .tmp 84) (by kernel_rfl) (by kernel_rfl) (by kernel_rfl) HR4A.out) HSA.out.2.2.2 ?_
        simp only [List.setIfInBounds_toArray, List.set_cons_zero, List.set_cons_succ]
        refine takeH 13 86 (ptV mm) rfl (by kernel_rfl) (by kernel_rfl) (by kernel_rfl) (by kernel_rfl) (fun _ _ _ h => h) (by kernel_rfl) (fun w hw => by (try dsimp only at hw); go_simp) HSA.out.2.2.2 ?_
        simp only [List.setIfInBounds_toArray, List.set_cons_zero, List.set_cons_succ]
        refine takeH 14 87 (.pointer (some ⟨mm, 0, none⟩)) rfl (by kernel_rfl) (by kernel_rfl) (by kernel_rfl) (by kernel_rfl) (fun _ _ _ h => h) (by kernel_rfl) (fun w hw => by (try dsimp only at hw); go_simp) HSA.out.2.2.2 ?_
        simp only [List.setIfInBounds_toArray, List.set_cons_zero, List.set_cons_succ]
        refine stepH_one 15 (by kernel_rfl) ?_
        refine opH_store 15 (W4A.setCell ⟨mm, 0, none⟩ (.slice vo4A n4A vc4A)) rfl (by kernel_rfl) (by kernel_rfl) (exec_storeK (p := .tmp 87) (x := .tmp 85) (by kernel_rfl) (by kernel_rfl) (by kernel_rfl) HEA.out.1 HEA.out.2.1) HEA.out.2.2.1 ?_
        refine wpAnyH_done (by kernel_rfl) ?_ _
        obtain ⟨z3, hfin⟩ := HEA.out.2.2.2
        generalize W4A.setCell ⟨mm, 0, none⟩ (.slice vo4A n4A vc4A) = W6 at *
        have HFIN := Hid.mk hfin
        clear hfin hH
        clear HSA HSB HSC HR2A HR3A HR4A HR2B HR3B HR4B HR3C HR4C HEA HEB HEC HX0 HW0 HML0 HMLA HXS
        go_wp2_with (go_at_call 14; refine HFIN.out.1.mono ?_; rintro e' w9 ⟨rfl, hz9, h9⟩; have H9 := Hid.mk h9; clear h9)
        go_ret2
        exact ⟨x, xg, xc, HX9.out, rfl, H9.out⟩
    · refine opH_run 11 84 (.slice (some ⟨W0.heap.size, 0, none⟩) 1 1) (W0.alloc (kpO x xg xc)) rfl (by kernel_rfl) (by kernel_rfl) (exec_oneK (p := .tmp 83) (by kernel_rfl) (by kernel_rfl)) HSA.out.1 ?_
      simp only [List.setIfInBounds_toArray, List.set_cons_zero, List.set_cons_succ]
      refine stepH_run 4 77 (.slice (some ⟨g, 0, none⟩) ms.length (k + 1)) (W0.alloc (kpO x xg xc)) rfl (by kernel_rfl) (by kernel_rfl) (by kernel_rfl) (exec_loadK (p := .tmp 76) (by kernel_rfl) (by kernel_rfl) (HMLA.out)) HSA.out.1 ?_
      simp only [List.setIfInBounds_toArray, List.set_cons_zero, List.set_cons_succ]
      refine stepH_run 6 79 (.slice (some ⟨g, 0, none⟩) k (k + 1)) (W0.alloc (kpO x xg xc)) rfl (by kernel_rfl) (by kernel_rfl) (by kernel_rfl) (by first | (go_simp; done) | (go_simp; intro hkk; omega)) HSA.out.1 ?_
      simp only [List.setIfInBounds_toArray, List.set_cons_zero, List.set_cons_succ]
      refine stepH_run 7 80 v2A W2A rfl (by kernel_rfl) (by kernel_rfl) (by kernel_rfl) (exec_append (s := .const (.slice none 0 0)) (x := .tmp 79) (by kernel_rfl) (by kernel_rfl) (by kernel_rfl) HR2A.out) HSA.out.2.1 ?_
      simp only [List.setIfInBounds_toArray, List.set_cons_zero, List.set_cons_succ]
      refine stepH_run 9 82 v3A W3A rfl (by kernel_rfl) (by kernel_rfl) (by kernel_rfl) (exec_append (s := .tmp 80) (x := .tmp 81) (by kernel_rfl) (by kernel_rfl) (by kernel_rfl) HR3A.out) HSA.out.2.2.1 ?_
      simp only [List.setIfInBounds_toArray, List.set_cons_zero, List.set_cons_succ]
      refine stepH_run 12 85 (.slice vo4A n4A vc4A) W4A rfl (by kernel_rfl) (by kernel_rfl) (by kernel_rfl) (exec_append (s := .tmp 82) (x := .tmp 84) (by kernel_rfl) (by kernel_rfl) (by kernel_rfl) HR4A.out) HSA.out.2.2.2 ?_
      simp only [List.setIfInBounds_toArray, List.set_cons_zero, List.set_cons_succ]
      refine takeH 13 86 (ptV mm) rfl (by kernel_rfl) (by kernel_rfl) (by kernel_rfl) (by kernel_rfl) (fun _ _ _ h => h) (by kernel_rfl) (fun w hw => by (try dsimp only at hw); go_simp) HSA.out.2.2.2 ?_
      simp only [List.setIfInBounds_toArray, List.set_cons_zero, List.set_cons_succ]
      refine takeH 14 87 (.pointer (some ⟨mm, 0, none⟩)) rfl (by kernel_rfl) (by kernel_rfl) (by kernel_rfl) (by kernel_rfl) (fun _ _ _ h => h) (by kernel_rfl) (fun w hw => by (try dsimp only at hw); go_simp) HSA.out.2.2.2 ?_
      simp only [List.setIfInBounds_toArray, List.set_cons_zero, List.set_cons_succ]
      refine stepH_one 15 (by kernel_rfl) ?_
      refine opH_store 15 (W4A.setCell ⟨mm, 0, none⟩ (.slice vo4A n4A vc4A)) rfl (by kernel_rfl) (by kernel_rfl) (exec_storeK (p := .tmp 87) (x := .tmp 85) (by kernel_rfl) (by kernel_rfl) (by kernel_rfl) HEA.out.1 HEA.out.2.1) HEA.out.2.2.1 ?_
      refine wpAnyH_done (by kernel_rfl) ?_ _
      obtain ⟨z3, hfin⟩ := HEA.out.2.2.2
      generalize W4A.setCell ⟨mm, 0, none⟩ (.slice vo4A n4A vc4A) = W6 at *
      have HFIN := Hid.mk hfin
      clear hfin hH
      clear HSA HSB HSC HR2A HR3A HR4A HR2B HR3B HR4B HR3C HR4C HEA HEB HEC HX0 HW0 HML0 HMLA HXS
      go_wp2_with (go_at_call 14; refine HFIN.out.1.mono ?_; rintro e' w9 ⟨rfl, hz9, h9⟩; have H9 := Hid.mk h9; clear h9)
      go_ret2
      exact ⟨x, xg, xc, HX9.out, rfl, H9.out⟩

  · rw [if_neg hvc] at HR1
    go_wp2_with (at_builtin; have hgd := HR1; refine wpList_append_known rfl _ _ _ rfl _ _ _ _ rfl rfl HR1.out ?_; simp only [Act.put, List.setIfInBounds_toArray, List.set_cons_zero, List.set_cons_succ]; clear HR1 hgd)
    refine wp_region_held_drew (S := XS X x xg xc) (by kernel_rfl) HX0.out (fun hH => ?_)
    change wpAnyH Try.prog Region.Mode.any _ _ _ 16 _ _ _
    rw [← HW0.out] at hH ⊢
    refine takeH 0 73 (ptV mm) rfl (by kernel_rfl) (by kernel_rfl) (by kernel_rfl) (by kernel_rfl) (fun _ _ _ h => h) (by kernel_rfl) (fun w hw => by kernel_rfl) hH ?_
    simp only [List.setIfInBounds_toArray, List.set_cons_zero, List.set_cons_succ]
    refine takeH 1 74 (ptV mm) rfl (by kernel_rfl) (by kernel_rfl) (by kernel_rfl) (by kernel_rfl) (fun _ _ _ h => h) (by kernel_rfl) (fun w hw => by kernel_rfl) hH ?_
    simp only [List.setIfInBounds_toArray, List.set_cons_zero, List.set_cons_succ]
    refine takeH 2 75 (ptV mm) rfl (by kernel_rfl) (by kernel_rfl) (by kernel_rfl) (by kernel_rfl) (fun _ _ _ h => h) (by kernel_rfl) (fun w hw => by (try dsimp only at hw); go_simp) hH ?_
    simp only [List.setIfInBounds_toArray, List.set_cons_zero, List.set_cons_succ]
    refine takeH 3 76 (.pointer (some ⟨mm, 0, none⟩)) rfl (by kernel_rfl) (by kernel_rfl) (by kernel_rfl) (by kernel_rfl) (fun _ _ _ h => h) (by kernel_rfl) (fun w hw => by (try dsimp only at hw); go_simp) hH ?_
    simp only [List.setIfInBounds_toArray, List.set_cons_zero, List.set_cons_succ]
    refine takeH 5 78 (.int .i64 k) rfl (by kernel_rfl) (by kernel_rfl) (by kernel_rfl) (by kernel_rfl) (fun _ _ _ h => h) (by kernel_rfl) (fun w hw => by kernel_rfl) hH ?_
    simp only [List.setIfInBounds_toArray, List.set_cons_zero, List.set_cons_succ]
    refine takeH 8 81 (.slice vo1 n1 vc1) rfl (by kernel_rfl) (by kernel_rfl) (by kernel_rfl) (by kernel_rfl) (fun _ _ _ h => h) (by kernel_rfl) (fun w hw => by kernel_rfl) hH ?_
    simp only [List.setIfInBounds_toArray, List.set_cons_zero, List.set_cons_succ]
    refine takeH 10 83 (kpV x xg xc) rfl (by kernel_rfl) (by kernel_rfl) (by kernel_rfl) (by kernel_rfl) (fun _ _ _ h => h) (by kernel_rfl) (fun w hw => by (try dsimp only at hw); unfold kpV; go_simp) hH ?_
    simp only [List.setIfInBounds_toArray, List.set_cons_zero, List.set_cons_succ]
    refine stepH_two 4 11 (by kernel_rfl) ?_ ?_
    · refine opH_run 4 77 (.slice (some ⟨g, 0, none⟩) ms.length vc) W0 rfl (by kernel_rfl) (by kernel_rfl) (exec_loadK (p := .tmp 76) (by kernel_rfl) (by kernel_rfl) (HML0.out)) hH ?_
      simp only [List.setIfInBounds_toArray, List.set_cons_zero, List.set_cons_succ]
      refine stepH_two 6 11 (by kernel_rfl) ?_ ?_
      · refine opH_run 6 79 (.slice (some ⟨g, 0, none⟩) k vc) W0 rfl (by kernel_rfl) (by kernel_rfl) (by first | (go_simp; done) | (go_simp; intro hkk; omega)) hH ?_
        simp only [List.setIfInBounds_toArray, List.set_cons_zero, List.set_cons_succ]
        refine stepH_two 7 11 (by kernel_rfl) ?_ ?_
        · refine opH_run 7 80 v2B W2B rfl (by kernel_rfl) (by kernel_rfl) (exec_append (s := .const (.slice none 0 0)) (x := .tmp 79) (by kernel_rfl) (by kernel_rfl) (by kernel_rfl) HR2B.out) HSB.out.1 ?_
          simp only [List.setIfInBounds_toArray, List.set_cons_zero, List.set_cons_succ]
          refine stepH_two 9 11 (by kernel_rfl) ?_ ?_
          · refine opH_run 9 82 v3C W3C rfl (by kernel_rfl) (by kernel_rfl) (exec_append (s := .tmp 80) (x := .tmp 81) (by kernel_rfl) (by kernel_rfl) (by kernel_rfl) HR3C.out) HSC.out.1 ?_
            simp only [List.setIfInBounds_toArray, List.set_cons_zero, List.set_cons_succ]
            refine stepH_run 11 84 (.slice (some ⟨W3C.heap.size, 0, none⟩) 1 1) (W3C.alloc (kpO x xg xc)) rfl (by kernel_rfl) (by kernel_rfl) (by kernel_rfl) (exec_oneK (p := .tmp 83) (by kernel_rfl) (by kernel_rfl)) HSC.out.2.1 ?_
            simp only [List.setIfInBounds_toArray, List.set_cons_zero, List.set_cons_succ]
            refine stepH_run 12 85 (.slice vo4C n4C vc4C) W4C rfl (by kernel_rfl) (by kernel_rfl) (by kernel_rfl) (exec_append (s := .tmp 82) (x := .tmp 84) (by kernel_rfl) (by kernel_rfl) (by kernel_rfl) HR4C.out) HSC.out.2.2 ?_
            simp only [List.setIfInBounds_toArray, List.set_cons_zero, List.set_cons_succ]
            refine takeH 13 86 (ptV mm) rfl (by kernel_rfl) (by kernel_rfl) (by kernel_rfl) (by kernel_rfl) (fun _ _ _ h => h) (by kernel_rfl) (fun w hw => by (try dsimp only at hw); go_simp) HSC.out.2.2 ?_
            simp only [List.setIfInBounds_toArray, List.set_cons_zero, List.set_cons_succ]
            refine takeH 14 87 (.pointer (some ⟨mm, 0, none⟩)) rfl (by kernel_rfl) (by kernel_rfl) (by kernel_rfl) (by kernel_rfl) (fun _ _ _ h => h) (by kernel_rfl) (fun w hw => by (try dsimp only at hw); go_simp) HSC.out.2.2 ?_
            simp only [List.setIfInBounds_toArray, List.set_cons_zero, List.set_cons_succ]
            refine stepH_one 15 (by kernel_rfl) ?_
            refine opH_store 15 (W4C.setCell ⟨mm, 0, none⟩ (.slice vo4C n4C vc4C)) rfl (by kernel_rfl) (by kernel_rfl) (exec_storeK (p := .tmp 87) (x := .tmp 85) (by kernel_rfl) (by kernel_rfl) (by kernel_rfl) HEC.out.1 HEC.out.2.1) HEC.out.2.2.1 ?_
            refine wpAnyH_done (by kernel_rfl) ?_ _
            obtain ⟨z3, hfin⟩ := HEC.out.2.2.2
            generalize W4C.setCell ⟨mm, 0, none⟩ (.slice vo4C n4C vc4C) = W6 at *
            have HFIN := Hid.mk hfin
            clear hfin hH
            clear HSA HSB HSC HR2A HR3A HR4A HR2B HR3B HR4B HR3C HR4C HEA HEB HEC HX0 HW0 HML0 HMLA HXS
            go_wp2_with (go_at_call 14; refine HFIN.out.1.mono ?_; rintro e' w9 ⟨rfl, hz9, h9⟩; have H9 := Hid.mk h9; clear h9)
            go_ret2
            exact ⟨x, xg, xc, HX9.out, rfl, H9.out⟩
          · refine opH_run 11 84 (.slice (some ⟨W2B.heap.size, 0, none⟩) 1 1) (W2B.alloc (kpO x xg xc)) rfl (by kernel_rfl) (by kernel_rfl) (exec_oneK (p := .tmp 83) (by kernel_rfl) (by kernel_rfl)) HSB.out.2.1 ?_
            simp only [List.setIfInBounds_toArray, List.set_cons_zero, List.set_cons_succ]
            refine stepH_run 9 82 v3B W3B rfl (by kernel_rfl) (by kernel_rfl) (by kernel_rfl) (exec_append (s := .tmp 80) (x := .tmp 81) (by kernel_rfl) (by kernel_rfl) (by kernel_rfl) HR3B.out) HSB.out.2.2.1 ?_
            simp only [List.setIfInBounds_toArray, List.set_cons_zero, List.set_cons_succ]
            refine stepH_run 12 85 (.slice vo4B n4B vc4B) W4B rfl (by kernel_rfl) (by kernel_rfl) (by kernel_rfl) (exec_append (s := .tmp 82) (x := .tmp 84) (by kernel_rfl) (by kernel_rfl) (by kernel_rfl) HR4B.out) HSB.out.2.2.2 ?_
            simp only [List.setIfInBounds_toArray, List.set_cons_zero, List.set_cons_succ]
            refine takeH 13 86 (ptV mm) rfl (by kernel_rfl) (by kernel_rfl) (by kernel_rfl) (by kernel_rfl) (fun _ _ _ h => h) (by kernel_rfl) (fun w hw => by (try dsimp only at hw); go_simp) HSB.out.2.2.2 ?_
            simp only [List.setIfInBounds_toArray, List.set_cons_zero, List.set_cons_succ]
            refine takeH 14 87 (.pointer (some ⟨mm, 0, none⟩)) rfl (by kernel_rfl) (by kernel_rfl) (by kernel_rfl) (by kernel_rfl) (fun _ _ _ h => h) (by kernel_rfl) (fun w hw => by (try dsimp only at hw); go_simp) HSB.out.2.2.2 ?_
            simp only [List.setIfInBounds_toArray, List.set_cons_zero, List.set_cons_succ]
            refine stepH_one 15 (by kernel_rfl) ?_
            refine opH_store 15 (W4B.setCell ⟨mm, 0, none⟩ (.slice vo4B n4B vc4B)) rfl (by kernel_rfl) (by kernel_rfl) (exec_storeK (p := .tmp 87) (x := .tmp 85) (by kernel_rfl) (by kernel_rfl) (by kernel_rfl) HEB.out.1 HEB.out.2.1) HEB.out.2.2.1 ?_
            refine wpAnyH_done (by kernel_rfl) ?_ _
            obtain ⟨z3, hfin⟩ := HEB.out.2.2.2
            generalize W4B.setCell ⟨mm, 0, none⟩ (.slice vo4B n4B vc4B) = W6 at *
            have HFIN := Hid.mk hfin
            clear hfin hH
            clear HSA HSB HSC HR2A HR3A HR4A HR2B HR3B HR4B HR3C HR4C HEA HEB HEC HX0 HW0 HML0 HMLA HXS
            go_wp2_with (go_at_call 14; refine HFIN.out.1.mono ?_; rintro e' w9 ⟨rfl, hz9, h9⟩; have H9 := Hid.mk h9; clear h9)
            go_ret2
            exact ⟨x, xg, xc, HX9.out, rfl, H9.out⟩
        · refine opH_run 11 84 (.slice (some ⟨W0.heap.size, 0, none⟩) 1 1) (W0.alloc (kpO x xg xc)) rfl (by kernel_rfl) (by kernel_rfl) (exec_oneK (p := .tmp 83) (by kernel_rfl) (by kernel_rfl)) HSA.out.1 ?_
          simp only [List.setIfInBounds_toArray, List.set_cons_zero, List.set_cons_succ]
          refine stepH_run 7 80 v2A W2A rfl (by kernel_rfl) (by kernel_rfl) (by kernel_rfl) (exec_append (s := .const (.slice none 0 0)) (x := .tmp 79) (by kernel_rfl) (by kernel_rfl) (by kernel_rfl) HR2A.out) HSA.out.2.1 ?_
          simp only [List.setIfInBounds_toArray, List.set_cons_zero, List.set_cons_succ]
          refine stepH_run 9 82 v3A W3A rfl (by kernel_rfl) (by kernel_rfl) (by kernel_rfl) (exec_append (s := .tmp 80) (x := .tmp 81) (by kernel_rfl) (by kernel_rfl) (by kernel_rfl) HR3A.out) HSA.out.2.2.1 ?_
          simp only [List.setIfInBounds_toArray, List.set_cons_zero, List.set_cons_succ]
          refine stepH_run 12 85 (.slice vo4A n4A vc4A) W4A rfl (by kernel_rfl) (by kernel_rfl) (by kernel_rfl) (exec_append (s := .tmp 82) (x := .tmp 84) (by kernel_rfl) (by kernel_rfl) (by kernel_rfl) HR4A.out) HSA.out.2.2.2 ?_
          simp only [List.setIfInBounds_toArray, List.set_cons_zero, List.set_cons_succ]
          refine takeH 13 86 (ptV mm) rfl (by kernel_rfl) (by kernel_rfl) (by kernel_rfl) (by kernel_rfl) (fun _ _ _ h => h) (by kernel_rfl) (fun w hw => by (try dsimp only at hw); go_simp) HSA.out.2.2.2 ?_
          simp only [List.setIfInBounds_toArray, List.set_cons_zero, List.set_cons_succ]
          refine takeH 14 87 (.pointer (some ⟨mm, 0, none⟩)) rfl (by kernel_rfl) (by kernel_rfl) (by kernel_rfl) (by kernel_rfl) (fun _ _ _ h => h) (by kernel_rfl) (fun w hw => by (try dsimp only at hw); go_simp) HSA.out.2.2.2 ?_
          simp only [List.setIfInBounds_toArray, List.set_cons_zero, List.set_cons_succ]
          refine stepH_one 15 (by kernel_rfl) ?_
          refine opH_store 15 (W4A.setCell ⟨mm, 0, none⟩ (.slice vo4A n4A vc4A)) rfl (by kernel_rfl) (by kernel_rfl) (exec_storeK (p := .tmp 87) (x := .tmp 85) (by kernel_rfl) (by kernel_rfl) (by kernel_rfl) HEA.out.1 HEA.out.2.1) HEA.out.2.2.1 ?_
          refine wpAnyH_done (by kernel_rfl) ?_ _
          obtain ⟨z3, hfin⟩ := HEA.out.2.2.2
          generalize W4A.setCell ⟨mm, 0, none⟩ (.slice vo4A n4A vc4A) = W6 at *
          have HFIN := Hid.mk hfin
          clear hfin hH
          clear HSA HSB HSC HR2A HR3A HR4A HR2B HR3B HR4B HR3C HR4C HEA HEB HEC HX0 HW0 HML0 HMLA HXS
          go_wp2_with (go_at_call 14; refine HFIN.out.1.mono ?_; rintro e' w9 ⟨rfl, hz9, h9⟩; have H9 := Hid.mk h9; clear h9)
          go_ret2
          exact ⟨x, xg, xc, HX9.out, rfl, H9.out⟩
      · refine opH_run 11 84 (.slice (some ⟨W0.heap.size, 0, none⟩) 1 1) (W0.alloc (kpO x xg xc)) rfl (by kernel_rfl) (by kernel_rfl) (exec_oneK (p := .tmp 83) (by kernel_rfl) (by kernel_rfl)) HSA.out.1 ?_
        simp only [List.setIfInBounds_toArray, List.set_cons_zero, List.set_cons_succ]
        refine stepH_run 6 79 (.slice (some ⟨g, 0, none⟩) k vc) (W0.alloc (kpO x xg xc)) rfl (by kernel_rfl) (by kernel_rfl) (by kernel_rfl) (by first | (go_simp; done) | (go_simp; intro hkk; omega)) HSA.out.1 ?_
        simp only [List.setIfInBounds_toArray, List.set_cons_zero, List.set_cons_succ]
        refine stepH_run 7 80 v2A W2A rfl (by kernel_rfl) (by kernel_rfl) (by kernel_rfl) (exec_append (s := .const (.slice none 0 0)) (x := .tmp 79) (by kernel_rfl) (by kernel_rfl) (by kernel_rfl) HR2A.out) HSA.out.2.1 ?_
        simp only [List.setIfInBounds_toArray, List.set_cons_zero, List.set_cons_succ]
        refine stepH_run 9 82 v3A W3A rfl (by kernel_rfl) (by kernel_rfl) (by kernel_rfl) (exec_append (s := .tmp 80) (x := .tmp 81) (by kernel_rfl) (by kernel_rfl) (by kernel_rfl) HR3A.out) HSA.out.2.2.1 ?_
        simp only [List.setIfInBounds_toArray, List.set_cons_zero, List.set_cons_succ]
        refine stepH_run 12 85 (.slice vo4A n4A vc4A) W4A rfl (by kernel_rfl) (by kernel_rfl) (by kernel_rfl) (exec_append (s := .tmp 82) (x := .tmp 84) (by kernel_rfl) (by kernel_rfl) (by kernel_rfl) HR4A.out) HSA.out.2.2.2 ?_
        simp only [List.setIfInBounds_toArray, List.set_cons_zero, List.set_cons_succ]
        refine takeH 13 86 (ptV mm) rfl (by kernel_rfl) (by kernel_rfl) (by kernel_rfl) (by kernel_rfl) (fun _ _ _ h => h) (by kernel_rfl) (fun w hw => by (try dsimp only at hw); go_simp) HSA.out.2.2.2 ?_
        simp only [List.setIfInBounds_toArray, List.set_cons_zero, List.set_cons_succ]
        refine takeH 14 87 (.pointer (some ⟨mm, 0, none⟩)) rfl (by kernel_rfl) (by kernel_rfl) (by kernel_rfl) (by kernel_rfl) (fun _ _ _ h => h) (by kernel_rfl) (fun w hw => by (try dsimp only at hw); go_simp) HSA.out.2.2.2 ?_
        simp only [List.setIfInBounds_toArray, List.set_cons_zero, List.set_cons_succ]
        refine stepH_one 15 (by kernel_rfl) ?_
        refine opH_store 15 (W4A.setCell ⟨mm, 0, none⟩ (.slice vo4A n4A vc4A)) rfl (by kernel_rfl) (by kernel_rfl) (exec_storeK (p := .tmp 87) (x := .tmp 85) (by kernel_rfl) (by kernel_rfl) (by kernel_rfl) HEA.out.1 HEA.out.2.1) HEA.out.2.2.1 ?_
        refine wpAnyH_done (by kernel_rfl) ?_ _
        obtain ⟨z3, hfin⟩ := HEA.out.2.2.2
        generalize W4A.setCell ⟨mm, 0, none⟩ (.slice vo4A n4A vc4A) = W6 at *
        have HFIN := Hid.mk hfin
        clear hfin hH
        clear HSA HSB HSC HR2A HR3A HR4A HR2B HR3B HR4B HR3C HR4C HEA HEB HEC HX0 HW0 HML0 HMLA HXS
        go_wp2_with (go_at_call 14; refine HFIN.out.1.mono ?_; rintro e' w9 ⟨rfl, hz9, h9⟩; have H9 := Hid.mk h9; clear h9)
        go_ret2
        exact ⟨x, xg, xc, HX9.out, rfl, H9.out⟩
    · refine opH_run 11 84 (.slice (some ⟨W0.heap.size, 0, none⟩) 1 1) (W0.alloc (kpO x xg xc)) rfl (by kernel_rfl) (by kernel_rfl) (exec_oneK (p := .tmp 83) (by kernel_rfl) (by kernel_rfl)) HSA.out.1 ?_
      simp only [List.setIfInBounds_toArray, List.set_cons_zero, List.set_cons_succ]
      refine stepH_run 4 77 (.slice (some ⟨g, 0, none⟩) ms.length vc) (W0.alloc (kpO x xg xc)) rfl (by kernel_rfl) (by kernel_rfl) (by kernel_rfl) (exec_loadK (p := .tmp 76) (by kernel_rfl) (by kernel_rfl) (HMLA.out)) HSA.out.1 ?_
      simp only [List.setIfInBounds_toArray, List.set_cons_zero, List.set_cons_succ]
      refine stepH_run 6 79 (.slice (some ⟨g, 0, none⟩) k vc) (W0.alloc (kpO x xg xc)) rfl (by kernel_rfl) (by kernel_rfl) (by kernel_rfl) (by first | (go_simp; done) | (go_simp; intro hkk; omega)) HSA.out.1 ?_
      simp only [List.setIfInBounds_toArray, List.set_cons_zero, List.set_cons_succ]
      refine stepH_run 7 80 v2A W2A rfl (by kernel_rfl) (by kernel_rfl) (by kernel_rfl) (exec_append (s := .const (.slice none 0 0)) (x := .tmp 79) (by kernel_rfl) (by kernel_rfl) (by kernel_rfl) HR2A.out) HSA.out.2.1 ?_
      simp only [List.setIfInBounds_toArray, List.set_cons_zero, List.set_cons_succ]
      refine stepH_run 9 82 v3A W3A rfl (by kernel_rfl) (by kernel_rfl) (by kernel_rfl) (exec_append (s := .tmp 80) (x := .tmp 81) (by kernel_rfl) (by kernel_rfl) (by kernel_rfl) HR3A.out) HSA.out.2.2.1 ?_
      simp only [List.setIfInBounds_toArray, List.set_cons_zero, List.set_cons_succ]
      refine stepH_run 12 85 (.slice vo4A n4A vc4A) W4A rfl (by kernel_rfl) (by kernel_rfl) (by kernel_rfl) (exec_append (s := .tmp 82) (x := .tmp 84) (by kernel_rfl) (by kernel_rfl) (by kernel_rfl) HR4A.out) HSA.out.2.2.2 ?_
      simp only [List.setIfInBounds_toArray, List.set_cons_zero, List.set_cons_succ]
      refine takeH 13 86 (ptV mm) rfl (by kernel_rfl) (by kernel_rfl) (by kernel_rfl) (by kernel_rfl) (fun _ _ _ h => h) (by kernel_rfl) (fun w hw => by (try dsimp only at hw); go_simp) HSA.out.2.2.2 ?_
      simp only [List.setIfInBounds_toArray, List.set_cons_zero, List.set_cons_succ]
      refine takeH 14 87 (.pointer (some ⟨mm, 0, none⟩)) rfl (by kernel_rfl) (by kernel_rfl) (by kernel_rfl) (by kernel_rfl) (fun _ _ _ h => h) (by kernel_rfl) (fun w hw => by (try dsimp only at hw); go_simp) HSA.out.2.2.2 ?_
      simp only [List.setIfInBounds_toArray, List.set_cons_zero, List.set_cons_succ]
      refine stepH_one 15 (by kernel_rfl) ?_
      refine opH_store 15 (W4A.setCell ⟨mm, 0, none⟩ (.slice vo4A n4A vc4A)) rfl (by kernel_rfl) (by kernel_rfl) (exec_storeK (p := .tmp 87) (x := .tmp 85) (by kernel_rfl) (by kernel_rfl) (by kernel_rfl) HEA.out.1 HEA.out.2.1) HEA.out.2.2.1 ?_
      refine wpAnyH_done (by kernel_rfl) ?_ _
      obtain ⟨z3, hfin⟩ := HEA.out.2.2.2
      generalize W4A.setCell ⟨mm, 0, none⟩ (.slice vo4A n4A vc4A) = W6 at *
      have HFIN := Hid.mk hfin
      clear hfin hH
      clear HSA HSB HSC HR2A HR3A HR4A HR2B HR3B HR4B HR3C HR4C HEA HEB HEC HX0 HW0 HML0 HMLA HXS
      go_wp2_with (go_at_call 14; refine HFIN.out.1.mono ?_; rintro e' w9 ⟨rfl, hz9, h9⟩; have H9 := Hid.mk h9; clear h9)
      go_ret2
      exact ⟨x, xg, xc, HX9.out, rfl, H9.out⟩
end
end Go.Proofs.Ytmbhjheoomlggaa
