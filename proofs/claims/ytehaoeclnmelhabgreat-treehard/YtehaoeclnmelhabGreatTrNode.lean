/-
  What turns a directory: remove, put, add.
-/
import Derived.Test.YtehaoeclnmelhabGreatTrSlots
import Derived.BigRegion
namespace Go.Proofs.YtehaoeclnmelhabGreat
open Go Go.Proofs Go.RowKit Go.Shelf
open Go.ChangeMaps (setBlock heap_setBlock_same heap_setBlock_other)

theorem MAt.drew {W : World} {k : TypeId} {b n : Nat} {f : Lit → Option Value} (h : MAt W k b n f) : MAt W.drew k b n f := h.kept rfl
theorem DrAt.drew {W : World} {loc : Nat → Nat} {b m r c : Nat} {l z : Int} {s : List Slt} (h : DrAt W loc b m r c l z s) : DrAt W.drew loc b m r c l z s := h.kept (fun _ _ => rfl)
set_option maxRecDepth 100000 in
set_option maxHeartbeats 4000000 in
theorem remove_any (w : World) (loc : Nat → Nat) (b m r c : Nat) (l z : Int) (s : List Slt) (h : DrAt w loc b m r c l z s) (hd : [b, m, r].Nodup) (p : List UInt8) (hp : p.length ≤ 1000) (hlt : nameAt s p < s.length) :
    Calls Tryz.prog 47 #[ptrV b, strV p] w fun e w' => e = .returned (.tuple #[]) ∧ DrAt w' loc b m r c l z (s.set (nameAt s p) none) ∧ Only (fun k => k = m ∨ k = r) w w' := by
  have e4 := blk_cell h.node 4
  have e5 := blk_cell h.node 5
  simp at e4 e5
  obtain ⟨c0, c1, f0, f1⟩ := h.slot (nameAt s p) hlt
  have hlk := h.drew.places.look keyed9 Tryz.underlying63 (zero_int _) (key_str hp)
  simp only [plF, if_pos hlt, Option.getD_some] at hlk
  have hb : (nameAt s p : Int) < (s.length : Int) := by omega
  have HH := Hid.mk h
  have HD := Hid.mk hd
  have HP := Hid.mk hp
  have HLT := Hid.mk hlt
  generalize hk : nameAt s p = k at *
  have HK := Hid.mk hk
  have HN : Hid (nameAt s p < s.length) := Hid.mk (by rw [hk]; exact HLT.out)
  clear h hd hp hlt hk
  unfold ptrV strV at *
  go_enter Tryz.func47, Tryz.ntmps47
  go_wp2
  go_region
  generalize hW1 : World.drew _ = W1
  have hk1 : ∀ q, q ≠ r → W1.heap[q]? = w.heap[q]? := fun q hq => by
    rw [← hW1]
    show (World.setCell _ _ _).heap[q]? = _
    rw [Below.heap_setCell _ _ _ _ hq, Below.heap_setCell _ _ _ _ hq]
  have hsz1 : Only (fun k => k = m ∨ k = r) w W1 := by
    rw [← hW1]
    exact (((Only.refl _ w).setCell (p := ⟨r, k * 2, none⟩) (.inl (.inr rfl)) _).setCell (p := ⟨r, k * 2 + 1, none⟩) (.inl (.inr rfl)) _).drew
  have hrow1 : W1.ownsRow 0 95 2 (.slice (some ⟨r, 0, none⟩) s.length c) s.length (slotCs loc (s.set k none)) := by
    rw [← hW1, slotCs_set _ _ _ _ HLT.out]
    exact row_set (row_set HH.out.row _ _) _ _
  obtain ⟨d1, d2, d3⟩ : b ≠ m ∧ b ≠ r ∧ m ≠ r := by have := HD.out; simp at this; exact ⟨this.1.1, this.1.2, this.2⟩
  have hnode1 := (hk1 b d2).trans HH.out.node
  have e5' := blk_cell hnode1 5
  simp at e5'
  have hm1 := HH.out.places.kept (hk1 m d3)
  obtain ⟨o, hdel, hmd⟩ := hm1.del keyed9 Tryz.underlying63 (key_str HP.out) 0
  have HFIN : Hid (DrAt (setBlock W1 m o) loc b m r c l z (s.set k none) ∧ Only (fun k => k = m ∨ k = r) w (setBlock W1 m o)) := Hid.mk ⟨⟨by rw [heap_set_other d1]; simpa using hnode1, owns_at (by simpa using hrow1) (fun q e => by cases e; exact heap_set_other (fun e => d3 e.symm)), (by
      have hu := used_set s k none HLT.out
      obtain ⟨a, ea⟩ := name_get HN.out
      rw [HK.out] at ea
      have eg : s.getD k none = some (a, p) := by rw [List.getD, ea]; rfl
      rw [eg] at hu
      have hp0 : plF s (.string p) = some (.int .i64 (k : Nat)) := pf_at HH.out.names ea
      rw [hp0] at hmd
      simp at hu hmd
      rw [show usedN (s.set k none) = usedN s - 1 by omega]
      refine hmd.names (fun q => ?_)
      have := pf_del HH.out.names HN.out q
      rw [HK.out] at this
      exact this), names_del HH.out.names _⟩, hsz1.setBlock (.inl (.inl rfl)) _⟩
  unfold strV at hdel
  clear hk1 hsz1 hrow1 hnode1 hm1 hmd hW1 e4 e5 c0 c1 f0 f1 hlk
  go_wp2
  go_end0
  exact ⟨rfl, HFIN.out⟩
set_option maxRecDepth 100000 in
set_option maxHeartbeats 4000000 in
theorem put_any (w : World) (loc : Nat → Nat) (b m r c : Nat) (l z : Int) (s : List Slt) (h : DrAt w loc b m r c l z s) (hd : [b, m, r].Nodup) (p : List UInt8) (hp : p.length ≤ 1000) (hlt : nameAt s p < s.length) (j : Nat) :
    Calls Tryz.prog 64 #[ptrV b, strV p, ptrV (loc j)] w fun e w' => e = .returned (.tuple #[]) ∧ DrAt w' loc b m r c l z (s.set (nameAt s p) (some (j, p))) ∧ Only (fun k => k = r) w w' := by
  have e4 := blk_cell h.node 4
  have e5 := blk_cell h.node 5
  simp at e4 e5
  obtain ⟨c0, c1, f0, f1⟩ := h.slot (nameAt s p) hlt
  have hlk := h.drew.places.look keyed9 Tryz.underlying63 (zero_int _) (key_str hp)
  simp only [plF, if_pos hlt, Option.getD_some] at hlk
  have hb : (nameAt s p : Int) < (s.length : Int) := by omega
  have HH := Hid.mk h
  have HD := Hid.mk hd
  have HLT := Hid.mk hlt
  generalize hk : nameAt s p = k at *
  have HK := Hid.mk hk
  have HN : Hid (nameAt s p < s.length) := Hid.mk (by rw [hk]; exact HLT.out)
  clear h hd hp hlt hk
  unfold ptrV strV at *
  go_enter Tryz.func64, Tryz.ntmps64
  go_wp2
  go_region
  generalize hW1 : World.drew _ = W1
  have hk1 : ∀ q, q ≠ r → W1.heap[q]? = w.heap[q]? := fun q hq => by
    rw [← hW1]
    show (World.setCell _ _ _).heap[q]? = _
    rw [Below.heap_setCell _ _ _ _ hq]
  have hsz1 : Only (fun k => k = r) w W1 := by
    rw [← hW1]
    exact ((Only.refl (fun k => k = r) w).setCell (p := ⟨r, k * 2 + 1, none⟩) (.inl rfl) _).drew
  obtain ⟨a, ea⟩ := name_get HN.out
  rw [HK.out] at ea
  have eg : s.getD k none = some (a, p) := by rw [List.getD, ea]; rfl
  have hrow1 : W1.ownsRow 0 95 2 (.slice (some ⟨r, 0, none⟩) s.length c) s.length (slotCs loc (s.set k (some (j, p)))) := by
    rw [← hW1, slotCs_set _ _ _ _ HLT.out]
    have h0 := slotCs_get loc s k 0 (by omega) HLT.out
    rw [eg] at h0
    have e0 : (slotCs loc s).set (k * 2) (strV p) = slotCs loc s := by
      apply List.ext_getElem?
      intro i
      rw [List.getElem?_set]
      split
      · rename_i e
        subst e
        rw [Nat.add_zero] at h0
        rw [h0, if_pos (by rw [slotCs_length]; have := HLT.out; omega)]
        rfl
      · rfl
    have e1 : ((slotC loc (some (j, p))).getD 0 undef) = strV p := rfl
    rw [e1, e0]
    exact row_set HH.out.row _ _
  obtain ⟨d1, d2, d3⟩ : b ≠ m ∧ b ≠ r ∧ m ≠ r := by have := HD.out; simp at this; exact ⟨this.1.1, this.1.2, this.2⟩
  have HFIN : Hid (DrAt W1 loc b m r c l z (s.set k (some (j, p))) ∧ Only (fun k => k = r) w W1) := Hid.mk ⟨⟨by simpa using (hk1 b d2).trans HH.out.node, by simpa using hrow1, (by
      have hu := used_set s k (some (j, p)) HLT.out
      rw [eg] at hu
      simp at hu
      rw [show usedN (s.set k (some (j, p))) = usedN s by omega]
      refine (HH.out.places.kept (hk1 m d3)).names (fun q => ?_)
      have := pf_put HH.out.names HN.out j q
      rw [HK.out] at this
      exact this), (by have := names_put HH.out.names HN.out j; rw [HK.out] at this; exact this)⟩, hsz1⟩
  clear hk1 hsz1 hrow1 hW1 e4 e5 c0 c1 f0 f1 hlk
  go_wp2
  go_end0
  exact ⟨rfl, HFIN.out⟩
end Go.Proofs.YtehaoeclnmelhabGreat
