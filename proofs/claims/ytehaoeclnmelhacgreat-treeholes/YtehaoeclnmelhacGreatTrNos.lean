/-
  The numbers of a file's blocks: the keys of its map, sorted.
-/
import Derived.Test.YtehaoeclnmelhacGreatTrNew
import Derived.Test.YtehaoeclnmelhacGreatKeys
namespace Go.Proofs.YtehaoeclnmelhacGreat
open Go Go.Proofs Go.RowKit Go.Shelf Go.Maps Go.Sort
attribute [local go_sem] Oper.semAt_some

theorem sorts_in (m : Nat) : AnyZI.SortsIn Tryz.prog sortedA_ren Fence.wide m :=
  ⟨fun blk off cap ss W hH hblk hsz => callsIn_wide.2 (AnyM.slices_Sort_int sortA blk off cap ss W hH hblk hsz), fun p cap W => callsIn_wide.2 (AnyM.slices_Sort_int_none sortA p cap W)⟩
/-- A file's blocks: by rising numbers, which a block may have. -/
def partsOk (p : List (Int × List Int)) : Prop := (p.map (·.1)).Pairwise (· < ·) ∧ ∀ x ∈ p, 0 ≤ x.1 ∧ x.1 < 65800
theorem fl_mem {p : List (Int × List Int)} {r : List Nat} (hl : r.length = p.length) (x : Int) : (flF p r (.int .i64 x)).isSome = decide (x ∈ p.map (·.1)) := by
  unfold flF
  rw [Option.isSome_map]
  induction p generalizing r with
  | nil => simp
  | cons a p ih =>
    cases r with
    | nil => simp at hl
    | cons b r =>
      have := ih (r := r) (by simpa using hl)
      simp only [List.zip_cons_cons, List.find?_cons, List.map_cons, List.mem_cons]
      by_cases h : a.1 = x
      · simp [h]
      · have h' : ¬ x = a.1 := fun e => h e.symm
        simp only [decide_eq_false h, h', false_or]
        exact this
theorem keys_perm {W : World} {m n : Nat} {p : List (Int × List Int)} {r : List Nat} {D : DataW Value} (hown : W.ownsMap Tryz.prog 3 rawE m n D) (hD : ∀ key kl, keyOf Tryz.prog 3 key = some kl → Maps.has D kl = (flF p r kl).isSome ∧ ∀ v, flF p r kl = some v → ∀ z, D.atKey kl z = .held v) (hl : r.length = p.length) (hp : partsOk p) : (p.map (·.1)).Perm (intKeys D) := by
  have hwf := intKeys_wf hown Tryz.underlying3
  obtain ⟨es, rfl, h1, h2⟩ := hown.entries keyed3
  have hks : ∀ q ∈ es, ∃ x, q.1 = .int .i64 x := by
    intro q hq
    obtain ⟨es0, clock, hb, F, hs, hD0⟩ := hown
    cases hD0
    rw [mem_sorted] at hq
    obtain ⟨e0, he0, rfl⟩ := List.mem_map.1 hq
    obtain ⟨l, hl0⟩ := F.keys e0 he0
    obtain ⟨x, _, e2, _⟩ := Maps.keyOf_int_inv Tryz.underlying3 hl0
    refine ⟨x, ?_⟩
    have : (WideElems.rg Tryz.prog 3 rawE e0).1 = l := by simp [WideElems.rg, WideElems.rd, hl0, rawE]
    rw [this, e2]
  refine perm_intKeys h1 hks ?_ (fun x => ?_)
  · exact hp.1.imp (fun h => Int.ne_of_lt h)
  · by_cases hx : (Lit.int .i64 x).wf = true
    · rw [(hD _ _ (Maps.keyOf_int_mk Tryz.underlying3 hx)).1, fl_mem hl]
      simp
    · constructor
      · intro hm
        obtain ⟨a, ha, rfl⟩ := List.mem_map.1 hm
        exact absurd (okI_of (by have := (hp.2 a ha); omega) (by have := (hp.2 a ha); omega)) hx
      · intro hh
        rw [Maps.has_eq, List.any_eq_true] at hh
        obtain ⟨q, hq, hs⟩ := hh
        obtain ⟨y, hy⟩ := hks q hq
        have hys : x = y := by
          rw [hy] at hs
          by_cases e : (Lit.int .i64 y) = .int .i64 x
          · cases e; rfl
          · rw [Maps.sameKey_ne e] at hs; cases hs
        have := hwf y (by
          show y ∈ es.map _
          exact List.mem_map.2 ⟨q, hq, by rw [hy]; rfl⟩)
        rw [← hys] at this
        exact absurd this hx
theorem sort_id {l : List Int} (h : l.Pairwise (· < ·)) : l.mergeSort (fun x y => decide (x ≤ y)) = l :=
  List.mergeSort_of_pairwise (h.imp (fun h => decide_eq_true (Int.le_of_lt h)))
set_option maxRecDepth 100000 in
set_option maxHeartbeats 2000000 in
theorem nos_file (w : World) (b m : Nat) (r : List Nat) (l z : Int) (p : List (Int × List Int)) (h : FlAt w b m r l z p) (hp : partsOk p) (hn : p.length ≤ 1048576) :
    Calls Tryz.prog 51 #[ptrV b] w fun e w' => ∃ ao c', e = .returned (.slice ao p.length c') ∧ w'.ownsRow w.heap.size 3 1 (.slice ao p.length c') p.length (Iy (p.map (·.1))) ∧ Below w.heap.size w w' := by
  obtain ⟨D, hown, hsz, hD⟩ := h.blocks
  have hperm := keys_perm hown hD h.len hp
  have hbl := hown.lt
  have hmax : Maps.size D ≤ maxLen := by rw [hsz]; unfold maxLen; omega
  have hbytes : Maps.size D * 8 ≤ 140737488355328 := by rw [hsz]; omega
  have e0 := blk_cell h.node 0
  have e3 := blk_cell h.node 3
  simp at e0 e3
  refine (callsIn_wide (n := 6)).1 ?_
  have hseq : SeqGives Fence.wide 2 Tryz.prog 74 #[.pointer (some ⟨w.heap.size, 0, none⟩)] encZ (fun ss => ss.Perm (intKeys D)) (Maps.size D) (w.alloc (.cells #[.map (some m)] 60)) :=
    AnyZI.keys_gives (ρ := keysA_ren) { keysA with } Fence.wide _ trivial rfl (by omega) w.heap.size m p.length D _ (by simp) (by simp) (by
      obtain ⟨es, clock, hb, Ft, hs, hD'⟩ := hown
      exact ⟨es, clock, (Below.heap_alloc _ _ m hbl).trans hb, Ft, hs, hD'⟩)
  have cK : ∀ mb W, CallsIn Fence.wide 5 Tryz.prog 63 #[.map mb] W fun e w' => e = .returned (.func (.func 74) #[] #[.pointer (some ⟨W.heap.size, 0, none⟩)]) ∧ w' = W.alloc (.cells #[.map mb] 60) := fun mb W => AnyZI.keys_in keysA Fence.wide 5 trivial rfl mb W
  have cS := AnyZI.sorted_in sortedA Fence.wide 5 trivial trivial trivial trivial rfl (by omega) (sorts_in _) (enters_of Tryz.func73 (by kernel_rfl) rfl) 74 #[.pointer (some ⟨w.heap.size, 0, none⟩)] trivial (enters_of Tryz.func74 (by kernel_rfl) rfl) _ _ hmax hbytes _ hseq
  change CallsIn _ _ Tryz.prog 62 _ _ _ at cS
  have CK := Hid.mk cK
  have CS := Hid.mk cS
  have HP := Hid.mk hperm
  have HPS := Hid.mk hp.1
  clear cK cS hseq hown hsz hD hperm h hmax hbytes hp
  unfold ptrV
  refine callsIn_of_wp Tryz.func51 rfl trivial ?_ rfl
  simp only [Tryz.ntmps51, List.size_toArray, List.length_cons, List.length_nil, Nat.reduceAdd, Nat.reduceSub, Array.replicate_succ, Array.replicate_zero, List.push_toArray, List.append_toArray, List.nil_append, List.cons_append]
  gi_wp2_with (first
    | (refine ⟨trivial, ?_⟩; gi_at_call 63; refine (CK.out _ _).mono ?_; rintro e w' ⟨rfl, hw⟩; subst w')
    | (refine ⟨trivial, ?_⟩; gi_at_call 62; refine CS.out.mono ?_; rintro e w' ⟨v, ss, rfl, hS, hrow, hnil, hb⟩; have HS := Hid.mk hS; have HROW := Hid.mk hrow; have HBB := Hid.mk hb; clear hS hrow hnil hb))
  go_ret
  have e1 : ss.mergeSort (fun x y => decide (x ≤ y)) = p.map (·.1) := by
    rw [mergeSort_of_perm_i (HS.out.trans HP.out.symm)]
    exact sort_id HPS.out
  have hlen : ss.length = p.length := by
    have := (HS.out.trans HP.out.symm).length_eq
    simpa using this
  have hrow := HROW.out
  rw [e1, hlen] at hrow
  have hrow2 : w'.ownsRow w.heap.size 3 1 v p.length (Iy (p.map (·.1))) := owns_base hrow (by simp)
  obtain ⟨ao, c', rfl, _⟩ := owns_lat hrow2
  exact ⟨ao, c', rfl, hrow2, ((Below.refl _ w).alloc (Nat.le_refl _) _).trans (HBB.out.mono (by simp))⟩
end Go.Proofs.YtehaoeclnmelhacGreat
