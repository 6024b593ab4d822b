/-
  Meta of the reference: the places of the Double in an array of bools.
-/
import Derived.Test.YthgekceppaeplaaBmMeta
namespace Go.Proofs.Ythgekceppaeplaa
open Go Go.Proofs Go.RowKit Go.Shelf

/-- Which places of the Double are used, as cells. -/
def usL (l : List Int) : List Value := (List.range 256).map (fun j => Value.bool (useB l j))
def UsAt (W : World) (d : Nat) (l : List Int) : Prop := W.heap[d]? = some (.cells (usL l).toArray 36 (0, 0))
theorem usL_get (l : List Int) (j : Nat) (h : j < 256) : (usL l)[j]? = some (.bool (useB l j)) := by simp [usL, h]
theorem usL_none : usL [] = List.replicate 256 (.bool false) := by
  unfold usL
  rw [List.eq_replicate_iff]
  simp [useB]
theorem UsAt.cell {W : World} {d : Nat} {l : List Int} (h : UsAt W d l) (j : Nat) (hj : j < 256) : W.cell? ⟨d, j, none⟩ = some (.bool (useB l j)) := by
  rw [blk_cell h]
  simpa using usL_get l j hj
theorem UsAt.lt {W : World} {d : Nat} {l : List Int} (h : UsAt W d l) : d < W.heap.size := lt_of_block h
theorem usL_set (l : List Int) (n : Int) (h : twoB n = true) : (usL l).set (twoN n) (.bool true) = usL (l ++ [n]) := by
  apply List.ext_getElem?
  intro i
  rw [List.getElem?_set]
  by_cases e : twoN n = i
  · subst e
    have hl : twoN n < (usL l).length := by simp [usL]; exact twoN_lt h
    rw [if_pos rfl, if_pos hl, usL_get _ _ (twoN_lt h), use_snoc, h]
    simp
  · rw [if_neg e]
    rcases Nat.lt_or_ge i 256 with hi | hi
    · rw [usL_get _ _ hi, usL_get _ _ hi, use_snoc, decide_eq_false e]
      simp
    · rw [List.getElem?_eq_none (by simp [usL]; exact hi), List.getElem?_eq_none (by simp [usL]; exact hi)]
theorem UsAt.set {W : World} {d : Nat} {l : List Int} (h : UsAt W d l) (n : Int) (h2 : twoB n = true) : UsAt (W.setCell ⟨d, twoN n, none⟩ (.bool true)) d (l ++ [n]) := by
  unfold UsAt
  rw [blk_set h, List.setIfInBounds_toArray, usL_set l n h2]
theorem usL_same (l : List Int) (n : Int) (h : twoB n = false ∨ useB l (twoN n) = true) : usL (l ++ [n]) = usL l := by
  unfold usL
  refine List.map_congr_left (fun j _ => ?_)
  rw [use_snoc]
  rcases h with h | h
  · rw [h]; simp
  · by_cases e : twoN n = j
    · subst e; rw [h]; simp
    · rw [decide_eq_false e]; simp
theorem infoB : (Try.prog.info? 36).map (fun i => (i.zero, i.size)) = some (some (.agg (List.replicate 256 (Value.bool false)).toArray), 256) := by kernel_rfl
theorem allocB_run (W : World) : (Instr.alloc 36 true (.tuple #[])).run Try.prog W = .ok (.pointer (some ⟨W.heap.size, 0, none⟩)) (W.alloc (.cells (usL []).toArray 36)) := by
  rw [usL_none]
  have h2 := infoB
  generalize List.replicate 256 (Value.bool false) = L at h2 ⊢
  cases h : Try.prog.info? 36 with
  | none => rw [h] at h2; cases h2
  | some i =>
    rw [h] at h2
    simp only [Option.map_some, Option.some.injEq, Prod.mk.injEq] at h2
    simp [Instr.alloc, zeroValue, typeInfo, h, h2.1, newVar, newRow, Value.cells]
theorem exec_alloc {P : Program} {ev : Operand → Value} {oi : Oper} {t : TypeId} {v : Value} {w w' : World} (ho : oi.op = .alloc t) (h : (Instr.alloc t true (.tuple #[])).run P w = .ok v w') : (execOp ev oi).run P w = .ok (.value v) w' := by
  unfold execOp
  rw [ho]
  simp only [Sem.run_bind, h, Result.andThen_ok]
  rfl
theorem wpList_known {P : Program} {w : World} {ops : Array Oper} {rest : List Oper} {o : Oper} {a : Act} {Q : Exit → Act → World → Prop} (hw : Region.wanted o (yielded ops a.tmps) = true) (v : Value) (w' : World)
    (hrun : (execOp a.eval o).run P w = .ok (.value v) w') (h : wpList P ops Q rest (a.put o.dst v) w') : wpList P ops Q (o :: rest) a w := by
  refine BigFrame.wpList_want hw fun K hK => ?_
  unfold Oper.wp
  rw [hrun, Oper.upon_value]
  exact hK _ _ h
theorem wpL_allocB {w : World} {ops : Array Oper} {rest : List Oper} {o : Oper} {a : Act} {Q : Exit → Act → World → Prop} (ho : o.op = .alloc 36) (hw : Region.wanted o (yielded ops a.tmps) = true) (v : Value) (w' : World) (hr : (Instr.alloc 36 true (.tuple #[])).run Try.prog w = .ok v w') (h : wpList Try.prog ops Q rest (a.put o.dst v) w') : wpList Try.prog ops Q (o :: rest) a w :=
  wpList_known hw _ _ (exec_alloc ho hr) h
/-- How many of level 1, of level 2: none or one. -/
def aI (b : Bool) : Int := if b = true then 1 else 0
theorem useN_none : useN [] = 0 := by
  have h := mt_none
  unfold mtN at h
  omega
theorem mt_is (l : List Int) : (mtN l : Int) = aI (l.any oneB) + aI (l.any twoB) + (useN l : Int) := by
  unfold mtN aI
  split <;> split <;> omega

set_option maxRecDepth 100000 in
set_option maxHeartbeats 4000000 in
theorem rmeta_any (w : World) (ao : Option Addr) (n c : Nat) (xs : List Int) (h : LAt w ao n xs) (hn : n ≤ 9223372036854775807) :
    Calls Try.prog 16 #[.slice ao n c] w fun e w' => e = .returned (.int .i64 (mtN xs)) ∧ Below w.heap.size w w' := by
  have HH := Hid.mk h
  have HL := Hid.mk h.1
  clear h
  obtain ⟨B, hB⟩ : ∃ B, w.heap.size = B := ⟨_, rfl⟩
  have HBB := Hid.mk hB
  obtain ⟨W0, hW0⟩ : ∃ W0, W0 = w.alloc (.cells (usL []).toArray 36) := ⟨_, rfl⟩
  have hal := allocB_run w
  rw [← hW0, hB] at hal
  have HS : Hid (UsAt W0 B [] ∧ LAt W0 ao n xs ∧ Below B w W0 ∧ B < W0.heap.size) := Hid.mk (by
    subst hW0
    refine ⟨?_, ?_, ?_, ?_⟩
    · have := blk_new w (.cells (usL []).toArray 36)
      rw [hB] at this
      exact this
    · refine HH.out.only (S := fun _ => False) ⟨rfl, rfl, rfl, by simp, fun k hk _ => Below.heap_alloc _ _ _ hk⟩ (fun _ _ _ h => h)
    · exact (Below.refl _ _).alloc (by omega) _
    · simp
      omega)
  have HAL := Hid.mk hal
  clear hW0 hB hal
  go_enter Try.func16, Try.ntmps16
  go_wp2_with (refine wpL_allocB rfl rfl _ _ HAL.out ?_; simp only [Act.put, List.setIfInBounds_toArray, List.set_cons_zero, List.set_cons_succ])
  go_loopw [3, 5, 6, 7] (fun s u d i wr => ∃ k : Nat, k ≤ n ∧ i = .int .i64 k ∧ s = .int .i64 (aI ((xs.take k).any oneB)) ∧ d = .int .i64 (aI ((xs.take k).any twoB)) ∧ u = .int .i64 (useN (xs.take k) : Int) ∧ UsAt wr B (xs.take k) ∧ LAt wr ao n xs ∧ Below B w wr ∧ B < wr.heap.size) (fun _ _ _ i _ => n - (intOf i).toNat)
  case atStart =>
    refine ⟨0, by omega, rfl, rfl, rfl, ?_, HS.out.1, HS.out.2.1, HS.out.2.2.1, HS.out.2.2.2⟩
    show Value.int .i64 0 = Value.int .i64 ((useN [] : Nat) : Int)
    rw [useN_none]
    rfl
  case round =>
    obtain ⟨k, hk, rfl, rfl, rfl, rfl, hus, hla, hbl, hsz⟩ := hrel
    have HU := Hid.mk hus
    have HA := Hid.mk hla
    have HB := Hid.mk hbl
    have HZ := Hid.mk hsz
    clear hus hla hbl hsz
    by_cases hlt : k < n
    · have hi : (k : Int) < n := by omega
      have hw1 : IntKind.i64.wrap ((k : Int) + 1) = (k : Int) + 1 := by rw [IntKind.wrap_i64]; omega
      obtain ⟨a', ea, hc⟩ := HA.out.at k hlt
      subst ea
      have HT : Hid (xs.take (k + 1) = xs.take k ++ [xs.getD k 0]) := Hid.mk (by
        have hx := HL.out
        rw [List.take_succ_eq_append_getElem (by omega)]
        simp [List.getD, List.getElem?_eq_getElem (show k < xs.length by omega)])
      generalize xs.getD k 0 = x at *
      have HX := Hid.mk hi
      cases h1 : oneB x with
      | true =>
        have h2 : twoB x = false := by
          have := of_decide_eq_true h1
          exact decide_eq_false (by omega)
        have HP := Hid.mk (fun W => rplace_any W x)
        rw [pl_one h1] at HP
        have HF : Hid ((1 : Int) = aI ((xs.take (k + 1)).any oneB) ∧ aI ((xs.take k).any twoB) = aI ((xs.take (k + 1)).any twoB) ∧ useN (xs.take k) = useN (xs.take (k + 1)) ∧ UsAt wr B (xs.take (k + 1))) := Hid.mk (by
          rw [HT.out, any_snoc, any_snoc, use_old _ _ (.inl h2), h1, h2]
          refine ⟨by simp [aI], by simp, rfl, ?_⟩
          unfold UsAt
          rw [usL_same _ _ (.inl h2)]
          exact HU.out)
        generalize aI ((xs.take k).any oneB) = A1 at *
        generalize aI ((xs.take k).any twoB) = A2 at *
        go_wp2_with (go_at_call 10; refine (HP.out _).mono ?_; rintro e w'' ⟨rfl, hw⟩; subst w'')
        go_roundw
        case rel => exact ⟨k + 1, by omega, by go_num, by rw [← HF.out.1], by rw [← HF.out.2.1], by rw [← HF.out.2.2.1], HF.out.2.2.2, HA.out, HB.out, HZ.out⟩
        case measure => simp [intOf]; omega
      | false =>
        cases h2 : twoB x with
        | false =>
          have HF : Hid (aI ((xs.take k).any oneB) = aI ((xs.take (k + 1)).any oneB) ∧ aI ((xs.take k).any twoB) = aI ((xs.take (k + 1)).any twoB) ∧ useN (xs.take k) = useN (xs.take (k + 1)) ∧ UsAt wr B (xs.take (k + 1))) := Hid.mk (by
            rw [HT.out, any_snoc, any_snoc, use_old _ _ (.inl h2), h1, h2]
            refine ⟨by simp, by simp, rfl, ?_⟩
            unfold UsAt
            rw [usL_same _ _ (.inl h2)]
            exact HU.out)
          generalize aI ((xs.take k).any oneB) = A1 at *
          generalize aI ((xs.take k).any twoB) = A2 at *
          have HP := Hid.mk (fun W => rplace_any W x)
          rw [pl_zero h1 h2] at HP
          generalize blX x = bx at *
          generalize blY x = bY at *
          cases hbb : blB x with
          | false =>
            rw [hbb] at HP
            go_wp2_with (go_at_call 10; refine (HP.out _).mono ?_; rintro e w'' ⟨rfl, hw⟩; subst w'')
            go_roundw
            case rel => exact ⟨k + 1, by omega, by go_num, by rw [← HF.out.1], by rw [← HF.out.2.1], by rw [← HF.out.2.2.1], HF.out.2.2.2, HA.out, HB.out, HZ.out⟩
            case measure => simp [intOf]; omega
          | true =>
            rw [hbb] at HP
            go_wp2_with (go_at_call 10; refine (HP.out _).mono ?_; rintro e w'' ⟨rfl, hw⟩; subst w'')
            go_roundw
            case rel => exact ⟨k + 1, by omega, by go_num, by rw [← HF.out.1], by rw [← HF.out.2.1], by rw [← HF.out.2.2.1], HF.out.2.2.2, HA.out, HB.out, HZ.out⟩
            case measure => simp [intOf]; omega
        | true =>
          have HP := Hid.mk (fun W => rplace_any W x)
          rw [pl_two h2] at HP
          have htn := twoN_lt h2
          have hcu := HU.out.cell (twoN x) htn
          have hfu : wr.frozen? ⟨B, twoN x, none⟩ = false := blk_free HU.out _
          have HN : Hid (twoN x < 256) := Hid.mk htn
          cases hu : useB (xs.take k) (twoN x) with
          | true =>
            rw [hu] at hcu
            have HF : Hid (aI ((xs.take k).any oneB) = aI ((xs.take (k + 1)).any oneB) ∧ (1 : Int) = aI ((xs.take (k + 1)).any twoB) ∧ useN (xs.take k) = useN (xs.take (k + 1)) ∧ UsAt wr B (xs.take (k + 1))) := Hid.mk (by
              rw [HT.out, any_snoc, any_snoc, use_old _ _ (.inr hu), h1, h2]
              refine ⟨by simp, by simp [aI], rfl, ?_⟩
              unfold UsAt
              rw [usL_same _ _ (.inr hu)]
              exact HU.out)
            clear hu
            generalize aI ((xs.take k).any oneB) = A1 at *
            generalize aI ((xs.take k).any twoB) = A2 at *
            generalize twoN x = tn at *
            go_wp2_with (go_at_call 10; refine (HP.out _).mono ?_; rintro e w'' ⟨rfl, hw⟩; subst w'')
            go_roundw
            case rel => exact ⟨k + 1, by omega, by go_num, by rw [← HF.out.1], by rw [← HF.out.2.1], by rw [← HF.out.2.2.1], HF.out.2.2.2, HA.out, HB.out, HZ.out⟩
            case measure => simp [intOf]; omega
          | false =>
            rw [hu] at hcu
            have hul := useN_le (xs.take k)
            have hw2 : IntKind.i64.wrap ((useN (xs.take k) : Int) + 1) = (useN (xs.take k) : Int) + 1 := by rw [IntKind.wrap_i64]; omega
            have HF : Hid (aI ((xs.take k).any oneB) = aI ((xs.take (k + 1)).any oneB) ∧ (1 : Int) = aI ((xs.take (k + 1)).any twoB) ∧ (useN (xs.take k) : Int) + 1 = (useN (xs.take (k + 1)) : Int) ∧ UsAt (wr.setCell ⟨B, twoN x, none⟩ (.bool true)) B (xs.take (k + 1)) ∧ LAt (wr.setCell ⟨B, twoN x, none⟩ (.bool true)) (some a') n xs ∧ Below B w (wr.setCell ⟨B, twoN x, none⟩ (.bool true)) ∧ B < (wr.setCell ⟨B, twoN x, none⟩ (.bool true)).heap.size) := Hid.mk (by
              rw [HT.out, any_snoc, any_snoc, use_new _ _ h2 hu, h1, h2]
              refine ⟨by simp, by simp [aI], by omega, HU.out.set x h2, ?_, ?_, ?_⟩
              · refine HA.out.only (S := fun q => q = B) ⟨rfl, rfl, rfl, by simp [World.setCell], fun q _ hs => Below.heap_setCell _ _ _ _ hs⟩ (fun a e hlt' he => ?_)
                obtain ⟨a2, e2, hlt2, _⟩ := HH.out.2 (by omega)
                cases e
                cases e2
                have := HBB.out
                omega
              · exact HB.out.setCell (Nat.le_refl _) _
              · have := HZ.out
                simpa [World.setCell] using this)
            clear hu
            generalize aI ((xs.take k).any oneB) = A1 at *
            generalize aI ((xs.take k).any twoB) = A2 at *
            generalize useN (xs.take k) = un at *
            generalize twoN x = tn at *
            go_wp2_with (go_at_call 10; refine (HP.out _).mono ?_; rintro e w'' ⟨rfl, hw⟩; subst w'')
            go_roundw
            case rel => exact ⟨k + 1, by omega, by go_num, by rw [← HF.out.1], by rw [← HF.out.2.1], by rw [← HF.out.2.2.1], HF.out.2.2.2.1, HF.out.2.2.2.2.1, HF.out.2.2.2.2.2.1, HF.out.2.2.2.2.2.2⟩
            case measure => simp [intOf]; omega
    · have hi : ¬ (k : Int) < n := by omega
      have hi2 : (n : Int) ≤ k := by omega
      obtain rfl : k = n := by omega
      have HE : Hid (xs.take k = xs) := Hid.mk (by have := HL.out; exact List.take_of_length_le (by omega))
      rw [HE.out]
      have hul := useN_le xs
      have HM := Hid.mk (mt_is xs)
      have ha1 : 0 ≤ aI (xs.any oneB) ∧ aI (xs.any oneB) ≤ 1 := by unfold aI; split <;> omega
      have ha2 : 0 ≤ aI (xs.any twoB) ∧ aI (xs.any twoB) ≤ 1 := by unfold aI; split <;> omega
      generalize aI (xs.any oneB) = A1 at *
      generalize aI (xs.any twoB) = A2 at *
      generalize useN xs = un at *
      have hw2 : IntKind.i64.wrap (A1 + A2 + (un : Int)) = A1 + A2 + (un : Int) := by rw [IntKind.wrap_i64]; omega
      have hw1 : IntKind.i64.wrap (A1 + A2) = A1 + A2 := by rw [IntKind.wrap_i64]; omega
      go_wp2
      go_ret
      exact ⟨by rw [HM.out]; rfl, by rw [HBB.out]; exact HB.out⟩
end Go.Proofs.Ythgekceppaeplaa
