/-
  The model's shrink.
-/
import Derived.Test.YtmbhjheoomlggaaCaMod2
namespace Go.Proofs.Ytmbhjheoomlggaa
open Go Go.Proofs Go.RowKit Go.Shelf
theorem idle_false {x : Kb} (h : 0 < x.pins ∨ x.dirty = true) : x.idle = false := by
  unfold Kb.idle
  rcases h with h | h
  · simp; intro e; omega
  · simp [h]
/-- What a loop of shrink keeps. -/
def MsI (F : Nat → Prop) (w : World) (mm e size : Nat) (reads : Int) (ks : List Kb) (ms0 : List Md) (W : World) : Prop := ∃ lv ms, MoAt (fun k => (F k ∧ k < w.heap.size) ∨ w.heap.size ≤ k) W mm lv e size reads ms ∧ shk size (ms.map Md.kb) = shk size ks ∧ ms.length ≤ 1000000 ∧ Only F w W ∧ ∀ m ∈ ms0, m.kb.idle = false → m ∈ ms
theorem mem_cut {ms : List Md} {k : Nat} {m : Md} (hm : m ∈ ms) (hi : m.kb.idle = false) (hk : (ms.getD k md0).kb.idle = true) : m ∈ ms.take k ++ ms.drop (k + 1) := by
  obtain ⟨j, hj, rfl⟩ := List.mem_iff_getElem.1 hm
  rcases Nat.lt_trichotomy j k with h | h | h
  · exact List.mem_append_left _ (List.mem_take_iff_getElem.2 ⟨j, by omega, rfl⟩)
  · subst h
    rw [show ms.getD j md0 = ms[j] by simp [List.getD, List.getElem?_eq_getElem hj]] at hk
    rw [hk] at hi
    cases hi
  · refine List.mem_append_right _ (List.mem_drop_iff_getElem.2 ⟨j - (k + 1), by omega, ?_⟩)
    congr 1
    omega
theorem MsI.val {F : Nat → Prop} {mm e size : Nat} {reads : Int} {W : World} {lv : Value} {ms : List Md} (h : MoAt F W mm lv e size reads ms) : ∃ vo vc, lv = .slice vo ms.length vc := by
  rcases Nat.eq_zero_or_pos ms.length with h0 | h0
  · rcases h.row.2 with ⟨hv, _⟩ | ⟨g, cap, cur, hv, _⟩
    · exact ⟨none, 0, by rw [hv, h0]⟩
    · exact ⟨_, _, hv⟩
  · obtain ⟨g, c, hv, _⟩ := h.cells h0
    exact ⟨_, _, hv⟩
theorem set_m0 {V : World} {mm : Nat} {u v1 v2 v3 e : Value} (hb : V.heap[mm]? = some (.cells #[u, v1, v2, v3] 31 (0, 0))) : (V.setCell ⟨mm, 0, none⟩ e).heap[mm]? = some (.cells #[e, v1, v2, v3] 31 (0, 0)) := by simpa using blk_set (i := 0) (u := e) hb
/-- The model with another row, of blocks that it had. -/
theorem MoAt.reset {F : Nat → Prop} {W W' : World} {mm e size : Nat} {reads : Int} {ms ms' : List Md} {lv v : Value} (h : MoAt F W mm lv e size reads ms) (hk : ∀ k, F k → k < W.heap.size → W'.heap[k]? = W.heap[k]?) (hrow : W'.ownsRow W.heap.size 39 4 v ms'.length (mdCs ms')) (hF : ∀ k, v.ownBlock = some k → F k) (hsub : ∀ m ∈ ms', m ∈ ms) :
    MoAt F (W'.setCell ⟨mm, 0, none⟩ v) mm v e size reads ms' := by
  have h' := h.keep hk
  have hml := lt_of_block h.blk
  refine ⟨h.fm, set_m0 h'.blk, owns_at (owns_base hrow (Nat.zero_le _)) (fun k ek => set_other _ _ _ _ (by have := (hrow.lt k ek).1; omega)), hF, fun m hm => ⟨owns_at (h'.dat m (hsub m hm)).1 (fun k ek => ?_), (h.dat m (hsub m hm)).2⟩⟩
  obtain rfl : m.g = k := by simpa [Value.ownBlock] using ek
  refine set_other _ _ _ _ (fun e' => ?_)
  have hb := h'.blk
  rcases (h'.dat m (hsub m hm)).1.2 with ⟨hq, _⟩ | ⟨g, cap, cur, hq, _, hh, _⟩
  · cases hq
  · cases hq
    rw [e', hb] at hh
    simp at hh
set_option maxRecDepth 100000 in
set_option maxHeartbeats 4000000 in
theorem mshrink_any {F : Nat → Prop} {w : World} {mm e size : Nat} {reads : Int} {ks : List Kb} {lv : Value} {ms : List Md} (h : MoAt F w mm lv e size reads ms) (hks : ms.map Md.kb = ks) (hl : ms.length ≤ 1000000) :
    Calls Try.prog 14 #[ptV mm] w fun r w' => r = .returned (.tuple #[]) ∧ ∃ lv' ms', MoAt (fun k => (F k ∧ k < w.heap.size) ∨ w.heap.size ≤ k) w' mm lv' e size reads ms' ∧ ms'.map Md.kb = shk size ks ∧ Only F w w' ∧ ∀ m ∈ ms, m.kb.idle = false → m ∈ ms' := by
  have H0 : Hid (MsI F w mm e size reads ks ms w) := Hid.mk ⟨lv, ms, h.mono (fun k hk hf => .inl ⟨hf, hk⟩), by rw [hks], hl, Only.refl _ _, fun m hm _ => hm⟩
  obtain ⟨ms0, hms0⟩ : ∃ ms0, ms0 = ms := ⟨_, rfl⟩
  rw [← hms0] at H0
  rw [← hms0]
  have HFM : Hid (F mm ∧ mm < w.heap.size) := Hid.mk ⟨h.fm, lt_of_block h.blk⟩
  clear h hks hl hms0
  go_enter Try.func14, Try.ntmps14
  go_wp2
  go_loopw [2] (fun _ wr => Hid (MsI F w mm e size reads ks ms0 wr)) (fun _ wr => lenM mm wr)
  case atStart => exact H0
  case round =>
    obtain ⟨lv, ms, hM, hsk, hl, hO, hKP⟩ := hrel.out
    have HKP := Hid.mk hKP
    clear hKP
    obtain ⟨vo, vc, hv⟩ := MsI.val hM
    subst hv
    obtain ⟨c0, c1, c2, c3, f0, _, _⟩ := mo_cells hM.blk
    have HM := Hid.mk hM
    have HSK := Hid.mk hsk
    have HO := Hid.mk hO
    have HLM : Hid (lenM mm wr = ms.length) := Hid.mk (by unfold lenM; rw [c0])
    clear hM hsk hO hrel H0 c2 c3
    by_cases hbig : (size : Int) < (ms.length : Int)
    · go_wp2_with fail
      go_quiet (fail)
      generalize hdn : World.drewN wr _ = W2
      have hM2 : MoAt (fun k => (F k ∧ k < w.heap.size) ∨ w.heap.size ≤ k) W2 mm (.slice vo ms.length vc) e size reads ms := by rw [← hdn]; exact HM.out.keep (fun _ _ _ => rfl)
      have HO2 : Hid (Only F w W2) := Hid.mk (by rw [← hdn]; exact HO.out.trans (Only.of_new (fun _ => False) (below_drewN' _ _ _ (Nat.le_refl _))) (fun _ e => e.elim))
      obtain ⟨d0, _, _, _, g0, _, _⟩ := mo_cells hM2.blk
      obtain ⟨g, c, hv, hcap, hFg, hgl, hgm, hcells⟩ := hM2.cells (by omega)
      cases hv
      have HC := Hid.mk hcells
      have HM2 := Hid.mk hM2
      have hpos : 0 < ms.length := by omega
      clear hdn hM2 HM HO c0 c1 f0 hcells
      go_wp2
      go_loopw [2] (fun q wr' => ∃ k : Nat, q = .int .i64 k ∧ k ≤ ms.length ∧ wr' = W2 ∧ Hid (∀ j, j < k → (ms.getD j md0).kb.idle = false)) (fun q _ => ms.length - (intOf q).toNat)
      case atStart => exact ⟨0, rfl, Nat.zero_le _, rfl, Hid.mk (fun j hj => by omega)⟩
      case round =>
        obtain ⟨k, rfl, hk, rfl, HA⟩ := hrel
        have hw1 : IntKind.i64.wrap ((k : Int) + 1) = (k : Int) + 1 := by rw [IntKind.wrap_i64]; omega
        by_cases hlt : k < ms.length
        · have hi : (k : Int) < (ms.length : Int) := by omega
          obtain ⟨_, c1, c2, _, _⟩ := HC.out k hlt
          have next : ∀ x : Kb, x = (ms.getD k md0).kb → x.idle = false → Hid (∀ j, j < k + 1 → (ms.getD j md0).kb.idle = false) := fun x hx h => Hid.mk (fun j hj => by
            rcases Nat.lt_or_ge j k with h' | h'
            · exact HA.out j h'
            · obtain rfl : j = k := by omega
              rw [← hx]; exact h)
          obtain ⟨x, hx⟩ : ∃ x, x = (ms.getD k md0).kb := ⟨_, rfl⟩
          rw [← hx] at c1 c2
          rcases Nat.eq_zero_or_pos x.pins with hp | hp
          · rw [hp] at c1
            cases hd : x.dirty with
            | true =>
              rw [hd] at c2
              have HA2 := next x hx (idle_false (.inr hd))
              clear next hx hp hd
              go_wp2
              go_roundw
              case rel => exact ⟨k + 1, by go_num, by omega, trivial, HA2⟩
              case measure => simp [intOf]; omega
            | false =>
              rw [hd] at c2
              have hid : (ms.getD k md0).kb.idle = true := by rw [← hx]; simp [Kb.idle, hp, hd]
              obtain ⟨v1, W3, v2, W4, v3, W5, r1, r2, r3, g1, g2, g3, hq, o1, o2, o3⟩ := mo_cut HM2.out hl k hlt g vc rfl
              have hk5 : ∀ q, q < wr.heap.size → W5.heap[q]? = wr.heap[q]? := fun q hql => by
                have h1 := g1.size
                have h2 := g2.size
                rw [g3.block q (by omega) (fun e => by have := hq q e.symm; omega), g2.block q (by omega) (by simp), g1.block q hql (by simp)]
              have hmm := lt_of_block HM2.out.blk
              have hs5 : wr.heap.size ≤ W5.heap.size := Nat.le_trans g1.size (Nat.le_trans g2.size g3.size)
              have hRES := HM2.out.reset (fun q _ hql => hk5 q hql) o3 (fun q hql => .inr (Nat.le_trans HO2.out.size (o3.lt q hql).1)) (fun m hm => by
                rcases List.mem_append.1 hm with hm | hm
                · exact List.mem_of_mem_take hm
                · exact List.mem_of_mem_drop hm)
              obtain ⟨vo3, vc3, hv3⟩ := MsI.val hRES
              subst hv3
              have HNEXT : Hid (MsI F w mm e size reads ks ms0 (W5.setCell ⟨mm, 0, none⟩ (.slice vo3 (ms.take k ++ ms.drop (k + 1)).length vc3))) := Hid.mk ⟨_, _, hRES, by
                rw [← HSK.out, shk_drop (ks := ms.map Md.kb) (k := k) (by simpa using hlt) (by simp; omega) (fun j hj => by rw [kb_getD]; exact HA.out j hj) (by rw [kb_getD]; exact hid), List.map_append, List.map_take, List.map_drop], by simp; omega, by
                have o5 : Only F w W5 := HO2.out.trans (⟨g3.os.trans (g2.os.trans g1.os), g3.tape.trans (g2.tape.trans g1.tape), g3.output.trans (g2.output.trans g1.output), hs5, fun q hql _ => hk5 q hql⟩ : Only (fun _ => False) wr W5) (fun _ h => h.elim)
                exact o5.setCell (p := ⟨mm, 0, none⟩) (.inl HFM.out.1) _, fun m hm hi' => mem_cut (HKP.out m hm hi') hi' hid⟩
              have hm3 : W3.cell? ⟨mm, 0, none⟩ = some (.slice (some ⟨g, 0, none⟩) ms.length vc) := by rw [World.cell?_of_block (w := wr) (g1.block mm hmm (by simp))]; exact d0
              have hm5 : W5.cell? ⟨mm, 0, none⟩ = some (.slice (some ⟨g, 0, none⟩) ms.length vc) := by rw [World.cell?_of_block (w := wr) (hk5 mm hmm)]; exact d0
              have hf5 : W5.frozen? ⟨mm, 0, none⟩ = false := blk_free ((hk5 mm hmm).trans HM2.out.blk) 0
              have HR1 := Hid.mk r1
              have HR2 := Hid.mk r2
              have HR3 := Hid.mk r3
              have HLEN : Hid (lenM mm (W5.setCell ⟨mm, 0, none⟩ (.slice vo3 (ms.take k ++ ms.drop (k + 1)).length vc3)) < ms.length) := Hid.mk (by
                unfold lenM
                rw [(mo_cells hRES.blk).1]
                simp
                omega)
              obtain ⟨N3, hN3⟩ : ∃ N3, N3 = (ms.take k ++ ms.drop (k + 1)).length := ⟨_, rfl⟩
              rw [← hN3] at HNEXT HLEN HR3
              clear hN3
              have hw2 : (k : Int) + 1 ≤ (ms.length : Int) := by omega
              have hw3 : (k : Int) ≤ (vc : Int) := by omega
              clear next hx hp hd hid r1 r2 r3 g1 g2 g3 hq o1 o2 o3 hk5 hs5 hRES HA
              go_wp2_with (first
                | (at_builtin; have hgd := HR1; refine wpList_append_known rfl _ _ _ rfl _ _ _ _ rfl rfl HR1.out ?_; simp only [Act.put, List.setIfInBounds_toArray, List.set_cons_zero, List.set_cons_succ]; clear HR1 hgd)
                | (at_builtin; have hgd := HR2; refine wpList_append_known rfl _ _ _ rfl _ _ _ _ rfl rfl HR2.out ?_; simp only [Act.put, List.setIfInBounds_toArray, List.set_cons_zero, List.set_cons_succ]; clear HR2 hgd)
                | (at_builtin; have hgd := HR3; refine wpList_append_known rfl _ _ _ rfl _ _ _ _ rfl rfl HR3.out ?_; simp only [Act.put, List.setIfInBounds_toArray, List.set_cons_zero, List.set_cons_succ]; clear HR3 hgd))
              all_goals exact ⟨HNEXT, by rw [HLM.out]; exact HLEN.out⟩
          · have hp2 : (0 : Int) < (x.pins : Int) := by omega
            have HA2 := next x hx (idle_false (.inl hp))
            clear next hx
            go_wp2
            go_roundw
            case rel => exact ⟨k + 1, by go_num, by omega, trivial, HA2⟩
            case measure => simp [intOf]; omega
        · have hi : ¬ (k : Int) < (ms.length : Int) := by omega
          obtain rfl : k = ms.length := by omega
          have HFIN : Hid (ms.map Md.kb = shk size ks) := Hid.mk (by
            rw [← HSK.out, shk_full (fun j hj => by rw [kb_getD]; exact HA.out j (by simpa using hj))])
          go_wp2
          refine bodyPost_ret (results_none rfl _ _ _) rfl ?_
          exact ⟨rfl, _, ms, HM2.out, HFIN.out, HO2.out, HKP.out⟩
    · have hle : (ms.length : Int) ≤ (size : Int) := by omega
      have HFIN : Hid (ms.map Md.kb = shk size ks) := Hid.mk (by
        rw [← HSK.out]
        unfold shk
        rw [List.length_map, show ms.length - size = 0 by omega, shkN_zero])
      go_wp2_with fail
      go_quiet (fail)
      go_wp2
      go_end0
      exact ⟨rfl, _, ms, HM.out.keep (fun _ _ _ => rfl), HFIN.out, HO.out.trans (Only.of_new (fun _ => False) (below_drewN' _ _ _ (Nat.le_refl _))) (fun _ e => e.elim), HKP.out⟩
end Go.Proofs.Ytmbhjheoomlggaa
