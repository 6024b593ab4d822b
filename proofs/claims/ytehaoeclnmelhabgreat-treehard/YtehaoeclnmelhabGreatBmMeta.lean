/-
  Meta of the program: how many indirect blocks blocks want, counted in a map.
-/
import Derived.Test.YtehaoeclnmelhabGreatBmMap
namespace Go.Proofs.YtehaoeclnmelhabGreat
open Go Go.Proofs Go.RowKit Go.Shelf

theorem exec_lookup {P : Program} {ev : Operand → Value} {oi : Oper} {t : TypeId} {m k : Operand} {v kv x : Value} {w w' : World} (ho : oi.op = .lookup t m k false) (hm : ev m = v) (hk : ev k = kv) (h : (Instr.lookup t v kv false).run P w = .ok x w') : (execOp ev oi).run P w = .ok (.value x) w' := by
  unfold execOp
  simp only [ho, Sem.run_bind, Sem.run_pure, Result.andThen_ok, hm, hk, h]
theorem exec_entry {P : Program} {ev : Operand → Value} {oi : Oper} {t : TypeId} {m k : Operand} {v kv x : Value} {w w' : World} (ho : oi.op = .mapEntry t m k) (hm : ev m = v) (hk : ev k = kv) (h : (Instr.mapEntry t v kv).run P w = .ok x w') : (execOp ev oi).run P w = .ok (.value x) w' := by
  unfold execOp
  simp only [ho, Sem.run_bind, Sem.run_pure, Result.andThen_ok, hm, hk, h]
theorem exec_estore {P : Program} {ev : Operand → Value} {oi : Oper} {t : TypeId} {m s x : Operand} {v sv xv : Value} {w w' : World} (ho : oi.op = .entryStore t m s x) (hm : ev m = v) (hs : ev s = sv) (hx : ev x = xv) (h : (Instr.entryStore t v sv xv).run P w = .ok () w') : (execOp ev oi).run P w = .ok .skip w' := by
  unfold execOp
  simp only [ho, Sem.run_bind, Sem.run_pure, Result.andThen_ok, hm, hs, hx, h]

/-- Which keys the map has behind these blocks. -/
def kyP (l : List Int) (a c : Int) : Bool := (decide (a = 1 ∧ c = 0) && l.any oneB) || (decide (a = 2 ∧ c = -1) && l.any twoB) || (decide (a = 2 ∧ 0 ≤ c) && useB l c.toNat)
theorem ky_none (a c : Int) : kyP [] a c = false := by simp [kyP, useB]
theorem mt_none : mtN [] = 0 := by simp [mtN, useN, useB]
theorem useN_le (l : List Int) : useN l ≤ 256 := by
  unfold useN
  have := List.length_filter_le (useB l) (List.range 256)
  simpa using this
theorem mt_le (l : List Int) : mtN l ≤ 258 := by
  have := useN_le l
  unfold mtN
  split <;> split <;> omega
theorem any_snoc (l : List Int) (n : Int) (p : Int → Bool) : (l ++ [n]).any p = (l.any p || p n) := by simp
/-- A block that wants no indirect one. -/
theorem ky_zero (l : List Int) (n : Int) (h1 : oneB n = false) (h2 : twoB n = false) : mtN (l ++ [n]) = mtN l ∧ ∀ a c, kyP (l ++ [n]) a c = kyP l a c := by
  refine ⟨?_, fun a c => ?_⟩
  · unfold mtN
    rw [any_snoc, any_snoc, use_old l n (.inl h2), h1, h2]
    simp
  · unfold kyP
    rw [any_snoc, any_snoc, use_snoc, h1, h2]
    simp
theorem ky_at1 (l : List Int) : kyP l 1 0 = l.any oneB := by simp [kyP]
theorem ky_at2 (l : List Int) : kyP l 2 (-1) = l.any twoB := by simp [kyP]
theorem ky_at (l : List Int) (k : Nat) : kyP l 2 k = useB l k := by
  unfold kyP
  rw [decide_eq_false (by omega), decide_eq_false (by omega), decide_eq_true ⟨rfl, by omega⟩]
  simp
theorem ky_one (l : List Int) (n : Int) (h1 : oneB n = true) : mtN (l ++ [n]) = (if kyP l 1 0 = true then mtN l else mtN l + 1) ∧ ∀ a c, (kyP l a c || decide (a = 1 ∧ c = 0)) = kyP (l ++ [n]) a c := by
  have h2 : twoB n = false := by
    have := of_decide_eq_true h1
    exact decide_eq_false (by omega)
  refine ⟨?_, fun a c => ?_⟩
  · rw [ky_at1]
    unfold mtN
    rw [any_snoc, any_snoc, use_old l n (.inl h2), h1, h2]
    cases l.any oneB <;> simp <;> omega
  · unfold kyP
    rw [any_snoc, any_snoc, use_snoc, h1, h2]
    cases l.any oneB <;> cases decide (a = 1 ∧ c = 0) <;> simp
theorem ky_two (l : List Int) (n : Int) (h2 : twoB n = true) :
    mtN (l ++ [n]) = (if (kyP l 2 (twoN n : Int) || decide ((2 : Int) = 2 ∧ (twoN n : Int) = -1)) = true then (if kyP l 2 (-1) = true then mtN l else mtN l + 1) else (if kyP l 2 (-1) = true then mtN l else mtN l + 1) + 1) ∧
    ∀ a c, ((kyP l a c || decide (a = 2 ∧ c = -1)) || decide (a = 2 ∧ c = (twoN n : Int))) = kyP (l ++ [n]) a c := by
  have h1 : oneB n = false := by
    have := of_decide_eq_true h2
    exact decide_eq_false (by omega)
  refine ⟨?_, fun a c => ?_⟩
  · rw [ky_at2, ky_at, decide_eq_false (by omega), Bool.or_false]
    cases hu : useB l (twoN n) with
    | true =>
      unfold mtN
      rw [any_snoc, any_snoc, use_old l n (.inr hu), h1, h2]
      cases l.any twoB <;> simp <;> omega
    | false =>
      unfold mtN
      rw [any_snoc, any_snoc, use_new l n h2 hu, h1, h2]
      cases l.any twoB <;> simp <;> omega
  · unfold kyP
    rw [any_snoc, any_snoc, use_snoc, h1, h2]
    by_cases ha : a = 2
    · subst ha
      by_cases hc : c = -1
      · subst hc
        simp
      · rw [decide_eq_false (p := (2 : Int) = 2 ∧ c = -1) (fun e => hc e.2)]
        by_cases hd : 0 ≤ c
        · have e : decide ((2 : Int) = 2 ∧ c = (twoN n : Int)) = decide (twoN n = c.toNat) := by
            by_cases q : twoN n = c.toNat
            · rw [decide_eq_true q, decide_eq_true ⟨rfl, by omega⟩]
            · rw [decide_eq_false q, decide_eq_false (by omega)]
          rw [e, decide_eq_true (p := (2 : Int) = 2 ∧ 0 ≤ c) ⟨rfl, hd⟩, decide_eq_false (p := (2 : Int) = 1 ∧ c = 0) (by omega)]
          simp
        · rw [decide_eq_false (p := (2 : Int) = 2 ∧ 0 ≤ c) (by omega), decide_eq_false (p := (2 : Int) = 2 ∧ c = (twoN n : Int)) (by omega)]
          simp
    · rw [decide_eq_false (p := a = 2 ∧ c = -1) (fun e => ha e.1), decide_eq_false (p := a = 2 ∧ 0 ≤ c) (fun e => ha e.1), decide_eq_false (p := a = 2 ∧ c = (twoN n : Int)) (fun e => ha e.1)]
      simp
/-- Place, by what a block wants. -/
theorem pl_zero {n : Int} (h1 : oneB n = false) (h2 : twoB n = false) : plV n = .tuple #[.int .i64 0, .int .i64 (blX n), .int .i64 (blY n), .bool (blB n)] := by
  have a := of_decide_eq_false h1
  have b := of_decide_eq_false h2
  unfold plV
  have e : blL n = 0 := by
    unfold blL
    by_cases hb : blB n = true
    · have := bl_iff.1 hb
      rw [if_pos hb, if_pos (by omega)]
    · rw [if_neg hb]
  rw [e]
theorem pl_one {n : Int} (h1 : oneB n = true) : plV n = .tuple #[.int .i64 1, .int .i64 (n - 8), .int .i64 0, .bool true] := by
  have a := of_decide_eq_true h1
  rw [pl_yes (by omega) (by omega)]
  simp only [if_neg (show ¬ n < 8 by omega), if_pos (show n < 264 by omega)]
theorem pl_two {n : Int} (h2 : twoB n = true) : plV n = .tuple #[.int .i64 2, .int .i64 (twoN n : Int), .int .i64 ((n - 264) % 256), .bool true] := by
  have a := of_decide_eq_true h2
  rw [pl_yes (by omega) (by omega), show (twoN n : Int) = (n - 264) / 256 by unfold twoN; omega]
  simp only [if_neg (show ¬ n < 8 by omega), if_neg (show ¬ n < 264 by omega)]

set_option maxRecDepth 100000 in
set_option maxHeartbeats 4000000 in
theorem meta_any (w : World) (ao : Option Addr) (n c : Nat) (xs : List Int) (h : LAt w ao n xs) (hn : n ≤ 9223372036854775807) :
    Calls Tryz.prog 69 #[.slice ao n c] w fun e w' => e = .returned (.int .i64 (mtN xs)) ∧ Below w.heap.size w w' := by
  have HH := Hid.mk h
  have HL := Hid.mk h.1
  clear h
  have hmm := @run_makeMap Tryz.prog
  obtain ⟨B, hB⟩ : ∃ B, w.heap.size = B := ⟨_, rfl⟩
  have HBB := Hid.mk hB
  go_enter Tryz.func69, Tryz.ntmps69
  go_wp2
  clear hB
  go_loopw [13] (fun i wr => ∃ k : Nat, k ≤ n ∧ i = .int .i64 k ∧ MpAt wr B (mtN (xs.take k)) (kyP (xs.take k)) ∧ LAt wr ao n xs ∧ Below B w wr ∧ B < wr.heap.size) (fun i _ => n - (intOf i).toNat)
  case atStart =>
    refine ⟨0, by omega, rfl, ?_, ?_, ?_, ?_⟩
    · have := MpAt.new w
      rw [HBB.out] at this
      exact (this.say (fun a c => (ky_none a c).symm))
    · refine HH.out.only (S := fun _ => False) ⟨rfl, rfl, rfl, by simp, fun k hk _ => Below.heap_alloc _ _ _ hk⟩ (fun _ _ _ h => h)
    · exact (Below.refl _ _).alloc (by have := HBB.out; omega) _
    · have := HBB.out
      simp
      omega
  case round =>
    obtain ⟨k, hk, rfl, hmp, hla, hbl, hsz⟩ := hrel
    have HM := Hid.mk hmp
    have HA := Hid.mk hla
    have HB := Hid.mk hbl
    have HZ := Hid.mk hsz
    clear hmp hla hbl hsz
    by_cases hlt : k < n
    · have hi : (k : Int) < n := by omega
      have hw1 : IntKind.i64.wrap ((k : Int) + 1) = (k : Int) + 1 := by rw [IntKind.wrap_i64]; omega
      obtain ⟨a', ea, hc⟩ := HA.out.at k hlt
      subst ea
      have HT : Hid (xs.take (k + 1) = xs.take k ++ [xs.getD k 0]) := Hid.mk (by
        have hx := HL.out
        rw [List.take_succ_eq_append_getElem (by omega)]
        simp [List.getD, List.getElem?_eq_getElem (show k < xs.length by omega)])
      generalize xs.getD k 0 = x at *
      have HX := Hid.mk hi
      cases h1 : oneB x with
      | true =>
        have HP := Hid.mk (fun W => place_any W x)
        rw [pl_one h1] at HP
        obtain ⟨x0, st, W1, W2, r1, r2, r3, r4, hm2, hg2⟩ := HM.out.drew.inc (by have := mt_le (xs.take k); unfold maxLen; omega) (a := 1) (c := 0) (okI_of (by omega) (by omega)) (okI_of (by omega) (by omega))
        have HR1 := Hid.mk r1
        have HR2 := Hid.mk r2
        have HR3 := Hid.mk r3
        have HR4 := Hid.mk r4
        have hky := ky_one (xs.take k) x h1
        rw [← HT.out] at hky
        have HF : Hid (MpAt W2 B (mtN (xs.take (k + 1))) (kyP (xs.take (k + 1))) ∧ LAt W2 (some a') n xs ∧ Below B w W2 ∧ B < W2.heap.size) := Hid.mk (by
          have hs : wr.heap.size ≤ W2.heap.size := hg2.size
          refine ⟨?_, ?_, ?_, Nat.lt_of_lt_of_le HZ.out hs⟩
          · rw [hky.1]
            exact hm2.say hky.2
          · refine HA.out.only (S := fun q => q = B) ⟨hg2.os, hg2.tape, hg2.output, hg2.size, fun q hq hs => hg2.block q hq (fun e => hs (by cases e; rfl))⟩ (fun a e hlt' he => ?_)
            have hla0 := HH.out.2 (by omega)
            obtain ⟨a2, e2, hlt2, _⟩ := hla0
            cases e
            cases e2
            have := HBB.out
            omega
          · exact HB.out.drew.grown hg2 (by have := HB.out.size; have := HBB.out; show B ≤ wr.heap.size; omega) (fun q hq => by cases hq; omega))
        clear r1 r2 r3 r4 hm2 hg2 hky
        go_wp2_with (go_at_call 80; refine (HP.out _).mono ?_; rintro e w'' ⟨rfl, hw⟩; subst w'')
        refine wp_region_held_drew (S := fun _ => True) (by kernel_rfl) trivial (fun hH => ?_)
        change wpAnyH Tryz.prog Region.Mode.any _ _ _ 7 _ _ _
        refine takeH 0 27 (.map (some B)) rfl (by kernel_rfl) (by kernel_rfl) (by kernel_rfl) (by kernel_rfl) (fun _ _ _ h => h) (by kernel_rfl) (fun w hw => by kernel_rfl) trivial ?_
        simp only [List.setIfInBounds_toArray, List.set_cons_zero, List.set_cons_succ]
        refine takeH 1 28 (pr 1 0) rfl (by kernel_rfl) (by kernel_rfl) (by kernel_rfl) (by kernel_rfl) (fun _ _ _ h => h) (by kernel_rfl) (fun w hw => by kernel_rfl) trivial ?_
        simp only [List.setIfInBounds_toArray, List.set_cons_zero, List.set_cons_succ]
        refine stepH_two 2 4 (by kernel_rfl) ?_ ?_
        · refine opH_run 2 29 (.int .i64 x0) wr.drew rfl (by kernel_rfl) (by kernel_rfl) (exec_lookup (m := .tmp 27) (k := .tmp 28) rfl (by kernel_rfl) (by kernel_rfl) HR1.out) trivial ?_
          simp only [List.setIfInBounds_toArray, List.set_cons_zero, List.set_cons_succ]
          refine takeH 3 30 (.int .i64 (IntKind.i64.wrap (x0 + 1))) rfl (by kernel_rfl) (by kernel_rfl) (by kernel_rfl) (by kernel_rfl) (fun _ _ _ h => h) (by kernel_rfl) (fun w hw => by go_simp) trivial ?_
          simp only [List.setIfInBounds_toArray, List.set_cons_zero, List.set_cons_succ]
          refine stepH_run 4 31 (.tuple #[.int .i64 x0, goInt st]) W1 rfl (by kernel_rfl) (by kernel_rfl) (by kernel_rfl) (exec_entry (m := .tmp 27) (k := .tmp 28) rfl (by kernel_rfl) (by kernel_rfl) HR2.out) trivial ?_
          simp only [List.setIfInBounds_toArray, List.set_cons_zero, List.set_cons_succ]
          refine takeH 5 32 (goInt st) rfl (by kernel_rfl) (by kernel_rfl) (by kernel_rfl) (by kernel_rfl) (fun _ _ _ h => h) (by kernel_rfl) (fun w hw => by go_simp) trivial ?_
          simp only [List.setIfInBounds_toArray, List.set_cons_zero, List.set_cons_succ]
          refine stepH_one 6 (by kernel_rfl) ?_
          refine opH_store 6 W2 rfl (by kernel_rfl) (by kernel_rfl) (exec_estore (m := .tmp 27) (s := .tmp 32) (x := .tmp 30) rfl (by kernel_rfl) (by kernel_rfl) (by kernel_rfl) HR4.out) trivial ?_
          refine wpAnyH_done (by kernel_rfl) ?_ _
          clear hH
          go_wp2
          go_roundw
          case rel => exact ⟨k + 1, by omega, by go_num, HF.out.1, HF.out.2.1, HF.out.2.2.1, HF.out.2.2.2⟩
          case measure => simp [intOf]; omega
        · refine opH_run 4 31 (.tuple #[.int .i64 x0, goInt st]) W1 rfl (by kernel_rfl) (by kernel_rfl) (exec_entry (m := .tmp 27) (k := .tmp 28) rfl (by kernel_rfl) (by kernel_rfl) HR2.out) trivial ?_
          simp only [List.setIfInBounds_toArray, List.set_cons_zero, List.set_cons_succ]
          refine takeH 5 32 (goInt st) rfl (by kernel_rfl) (by kernel_rfl) (by kernel_rfl) (by kernel_rfl) (fun _ _ _ h => h) (by kernel_rfl) (fun w hw => by go_simp) trivial ?_
          simp only [List.setIfInBounds_toArray, List.set_cons_zero, List.set_cons_succ]
          refine stepH_run 2 29 (.int .i64 x0) W1 rfl (by kernel_rfl) (by kernel_rfl) (by kernel_rfl) (exec_lookup (m := .tmp 27) (k := .tmp 28) rfl (by kernel_rfl) (by kernel_rfl) HR3.out) trivial ?_
          simp only [List.setIfInBounds_toArray, List.set_cons_zero, List.set_cons_succ]
          refine takeH 3 30 (.int .i64 (IntKind.i64.wrap (x0 + 1))) rfl (by kernel_rfl) (by kernel_rfl) (by kernel_rfl) (by kernel_rfl) (fun _ _ _ h => h) (by kernel_rfl) (fun w hw => by go_simp) trivial ?_
          simp only [List.setIfInBounds_toArray, List.set_cons_zero, List.set_cons_succ]
          refine stepH_one 6 (by kernel_rfl) ?_
          refine opH_store 6 W2 rfl (by kernel_rfl) (by kernel_rfl) (exec_estore (m := .tmp 27) (s := .tmp 32) (x := .tmp 30) rfl (by kernel_rfl) (by kernel_rfl) (by kernel_rfl) HR4.out) trivial ?_
          refine wpAnyH_done (by kernel_rfl) ?_ _
          clear hH
          go_wp2
          go_roundw
          case rel => exact ⟨k + 1, by omega, by go_num, HF.out.1, HF.out.2.1, HF.out.2.2.1, HF.out.2.2.2⟩
          case measure => simp [intOf]; omega
      | false =>
        cases h2 : twoB x with
        | false =>
          have HP := Hid.mk (fun W => place_any W x)
          rw [pl_zero h1 h2] at HP
          have hky := ky_zero (xs.take k) x h1 h2
          rw [← HT.out] at hky
          have HF : Hid (MpAt wr B (mtN (xs.take (k + 1))) (kyP (xs.take (k + 1)))) := Hid.mk (by
            rw [hky.1]
            exact HM.out.say (fun a c => (hky.2 a c).symm))
          clear hky
          go_wp2_with (go_at_call 80; refine (HP.out _).mono ?_; rintro e w'' ⟨rfl, hw⟩; subst w'')
          go_roundw
          case rel => exact ⟨k + 1, by omega, by go_num, HF.out, HA.out, HB.out, HZ.out⟩
          case measure => simp [intOf]; omega
        | true =>
          have HP := Hid.mk (fun W => place_any W x)
          rw [pl_two h2] at HP
          have htn := twoN_lt h2
          obtain ⟨x0, st, W1, W2, r1, r2, r3, r4, hm2, hg2⟩ := HM.out.drew.inc (by have := mt_le (xs.take k); unfold maxLen; omega) (a := 2) (c := -1) (okI_of (by omega) (by omega)) (okI_of (by omega) (by omega))
          obtain ⟨y0, su, Z1, Z2, s1, s2, s3, s4, hm3, hg3⟩ := hm2.drew.inc (by have := mt_le (xs.take k); unfold maxLen; split <;> omega) (a := 2) (c := (twoN x : Int)) (okI_of (by omega) (by omega)) (okI_of (by omega) (by omega))
          have HR1 := Hid.mk r1
          have HR2 := Hid.mk r2
          have HR3 := Hid.mk r3
          have HR4 := Hid.mk r4
          have HS1 := Hid.mk s1
          have HS2 := Hid.mk s2
          have HS3 := Hid.mk s3
          have HS4 := Hid.mk s4
          have hky := ky_two (xs.take k) x h2
          rw [← HT.out] at hky
          have HF : Hid (MpAt Z2 B (mtN (xs.take (k + 1))) (kyP (xs.take (k + 1))) ∧ LAt Z2 (some a') n xs ∧ Below B w Z2 ∧ B < Z2.heap.size) := Hid.mk (by
            have hs : wr.heap.size ≤ W2.heap.size := hg2.size
            have hs3 : W2.heap.size ≤ Z2.heap.size := hg3.size
            have hz := HZ.out
            have hbs := HBB.out
            refine ⟨?_, ?_, ?_, by omega⟩
            · rw [hky.1]
              exact hm3.say hky.2
            · have hl2 : LAt W2 (some a') n xs := by
                refine HA.out.only (S := fun q => q = B) ⟨hg2.os, hg2.tape, hg2.output, hg2.size, fun q hq hs => hg2.block q hq (fun e => hs (by cases e; rfl))⟩ (fun a e hlt' he => ?_)
                obtain ⟨a2, e2, hlt2, _⟩ := HH.out.2 (by omega)
                cases e
                cases e2
                omega
              refine hl2.only (S := fun q => q = B) ⟨hg3.os, hg3.tape, hg3.output, hg3.size, fun q hq hs => hg3.block q hq (fun e => hs (by cases e; rfl))⟩ (fun a e hlt' he => ?_)
              obtain ⟨a2, e2, hlt2, _⟩ := HH.out.2 (by omega)
              cases e
              cases e2
              omega
            · have hb2 := HB.out.drew.grown hg2 (by show B ≤ wr.heap.size; omega) (fun q hq => by cases hq; omega)
              exact hb2.drew.grown hg3 (by show B ≤ W2.heap.size; omega) (fun q hq => by cases hq; omega))
          clear r1 r2 r3 r4 s1 s2 s3 s4 hm2 hg2 hm3 hg3 hky
          generalize (twoN x : Int) = tn at *
          go_wp2_with (go_at_call 80; refine (HP.out _).mono ?_; rintro e w'' ⟨rfl, hw⟩; subst w'')
          refine wp_region_held_drew (S := fun _ => True) (by kernel_rfl) trivial (fun hH => ?_)
          change wpAnyH Tryz.prog Region.Mode.any _ _ _ 7 _ _ _
          refine takeH 0 35 (.map (some B)) rfl (by kernel_rfl) (by kernel_rfl) (by kernel_rfl) (by kernel_rfl) (fun _ _ _ h => h) (by kernel_rfl) (fun w hw => by kernel_rfl) trivial ?_
          simp only [List.setIfInBounds_toArray, List.set_cons_zero, List.set_cons_succ]
          refine takeH 1 36 (pr 2 (-1)) rfl (by kernel_rfl) (by kernel_rfl) (by kernel_rfl) (by kernel_rfl) (fun _ _ _ h => h) (by kernel_rfl) (fun w hw => by kernel_rfl) trivial ?_
          simp only [List.setIfInBounds_toArray, List.set_cons_zero, List.set_cons_succ]
          refine stepH_two 2 4 (by kernel_rfl) ?_ ?_
          · refine opH_run 2 37 (.int .i64 x0) wr.drew rfl (by kernel_rfl) (by kernel_rfl) (exec_lookup (m := .tmp 35) (k := .tmp 36) rfl (by kernel_rfl) (by kernel_rfl) HR1.out) trivial ?_
            simp only [List.setIfInBounds_toArray, List.set_cons_zero, List.set_cons_succ]
            refine takeH 3 38 (.int .i64 (IntKind.i64.wrap (x0 + 1))) rfl (by kernel_rfl) (by kernel_rfl) (by kernel_rfl) (by kernel_rfl) (fun _ _ _ h => h) (by kernel_rfl) (fun w hw => by go_simp) trivial ?_
            simp only [List.setIfInBounds_toArray, List.set_cons_zero, List.set_cons_succ]
            refine stepH_run 4 39 (.tuple #[.int .i64 x0, goInt st]) W1 rfl (by kernel_rfl) (by kernel_rfl) (by kernel_rfl) (exec_entry (m := .tmp 35) (k := .tmp 36) rfl (by kernel_rfl) (by kernel_rfl) HR2.out) trivial ?_
            simp only [List.setIfInBounds_toArray, List.set_cons_zero, List.set_cons_succ]
            refine takeH 5 40 (goInt st) rfl (by kernel_rfl) (by kernel_rfl) (by kernel_rfl) (by kernel_rfl) (fun _ _ _ h => h) (by kernel_rfl) (fun w hw => by go_simp) trivial ?_
            simp only [List.setIfInBounds_toArray, List.set_cons_zero, List.set_cons_succ]
            refine stepH_one 6 (by kernel_rfl) ?_
            refine opH_store 6 W2 rfl (by kernel_rfl) (by kernel_rfl) (exec_estore (m := .tmp 35) (s := .tmp 40) (x := .tmp 38) rfl (by kernel_rfl) (by kernel_rfl) (by kernel_rfl) HR4.out) trivial ?_
            refine wpAnyH_done (by kernel_rfl) ?_ _
            clear hH
            go_wp2
            refine wp_region_held_drew (S := fun _ => True) (by kernel_rfl) trivial (fun hH => ?_)
            change wpAnyH Tryz.prog Region.Mode.any _ _ _ 8 _ _ _
            refine takeH 0 41 (.map (some B)) rfl (by kernel_rfl) (by kernel_rfl) (by kernel_rfl) (by kernel_rfl) (fun _ _ _ h => h) (by kernel_rfl) (fun w hw => by kernel_rfl) trivial ?_
            simp only [List.setIfInBounds_toArray, List.set_cons_zero, List.set_cons_succ]
            refine takeH 1 42 (.int .i64 tn) rfl (by kernel_rfl) (by kernel_rfl) (by kernel_rfl) (by kernel_rfl) (fun _ _ _ h => h) (by kernel_rfl) (fun w hw => by kernel_rfl) trivial ?_
            simp only [List.setIfInBounds_toArray, List.set_cons_zero, List.set_cons_succ]
            refine takeH 2 43 (pr 2 tn) rfl (by kernel_rfl) (by kernel_rfl) (by kernel_rfl) (by kernel_rfl) (fun _ _ _ h => h) (by kernel_rfl) (fun w hw => by kernel_rfl) trivial ?_
            simp only [List.setIfInBounds_toArray, List.set_cons_zero, List.set_cons_succ]
            refine stepH_two 3 5 (by kernel_rfl) ?_ ?_
            · refine opH_run 3 44 (.int .i64 y0) W2.drew rfl (by kernel_rfl) (by kernel_rfl) (exec_lookup (m := .tmp 41) (k := .tmp 43) rfl (by kernel_rfl) (by kernel_rfl) HS1.out) trivial ?_
              simp only [List.setIfInBounds_toArray, List.set_cons_zero, List.set_cons_succ]
              refine takeH 4 45 (.int .i64 (IntKind.i64.wrap (y0 + 1))) rfl (by kernel_rfl) (by kernel_rfl) (by kernel_rfl) (by kernel_rfl) (fun _ _ _ h => h) (by kernel_rfl) (fun w hw => by go_simp) trivial ?_
              simp only [List.setIfInBounds_toArray, List.set_cons_zero, List.set_cons_succ]
              refine stepH_run 5 46 (.tuple #[.int .i64 y0, goInt su]) Z1 rfl (by kernel_rfl) (by kernel_rfl) (by kernel_rfl) (exec_entry (m := .tmp 41) (k := .tmp 43) rfl (by kernel_rfl) (by kernel_rfl) HS2.out) trivial ?_
              simp only [List.setIfInBounds_toArray, List.set_cons_zero, List.set_cons_succ]
              refine takeH 6 47 (goInt su) rfl (by kernel_rfl) (by kernel_rfl) (by kernel_rfl) (by kernel_rfl) (fun _ _ _ h => h) (by kernel_rfl) (fun w hw => by go_simp) trivial ?_
              simp only [List.setIfInBounds_toArray, List.set_cons_zero, List.set_cons_succ]
              refine stepH_one 7 (by kernel_rfl) ?_
              refine opH_store 7 Z2 rfl (by kernel_rfl) (by kernel_rfl) (exec_estore (m := .tmp 41) (s := .tmp 47) (x := .tmp 45) rfl (by kernel_rfl) (by kernel_rfl) (by kernel_rfl) HS4.out) trivial ?_
              refine wpAnyH_done (by kernel_rfl) ?_ _
              clear hH
              go_wp2
              go_roundw
              case rel => exact ⟨k + 1, by omega, by go_num, HF.out.1, HF.out.2.1, HF.out.2.2.1, HF.out.2.2.2⟩
              case measure => simp [intOf]; omega
            · refine opH_run 5 46 (.tuple #[.int .i64 y0, goInt su]) Z1 rfl (by kernel_rfl) (by kernel_rfl) (exec_entry (m := .tmp 41) (k := .tmp 43) rfl (by kernel_rfl) (by kernel_rfl) HS2.out) trivial ?_
              simp only [List.setIfInBounds_toArray, List.set_cons_zero, List.set_cons_succ]
              refine takeH 6 47 (goInt su) rfl (by kernel_rfl) (by kernel_rfl) (by kernel_rfl) (by kernel_rfl) (fun _ _ _ h => h) (by kernel_rfl) (fun w hw => by go_simp) trivial ?_
              simp only [List.setIfInBounds_toArray, List.set_cons_zero, List.set_cons_succ]
              refine stepH_run 3 44 (.int .i64 y0) Z1 rfl (by kernel_rfl) (by kernel_rfl) (by kernel_rfl) (exec_lookup (m := .tmp 41) (k := .tmp 43) rfl (by kernel_rfl) (by kernel_rfl) HS3.out) trivial ?_
              simp only [List.setIfInBounds_toArray, List.set_cons_zero, List.set_cons_succ]
              refine takeH 4 45 (.int .i64 (IntKind.i64.wrap (y0 + 1))) rfl (by kernel_rfl) (by kernel_rfl) (by kernel_rfl) (by kernel_rfl) (fun _ _ _ h => h) (by kernel_rfl) (fun w hw => by go_simp) trivial ?_
              simp only [List.setIfInBounds_toArray, List.set_cons_zero, List.set_cons_succ]
              refine stepH_one 7 (by kernel_rfl) ?_
              refine opH_store 7 Z2 rfl (by kernel_rfl) (by kernel_rfl) (exec_estore (m := .tmp 41) (s := .tmp 47) (x := .tmp 45) rfl (by kernel_rfl) (by kernel_rfl) (by kernel_rfl) HS4.out) trivial ?_
              refine wpAnyH_done (by kernel_rfl) ?_ _
              clear hH
              go_wp2
              go_roundw
              case rel => exact ⟨k + 1, by omega, by go_num, HF.out.1, HF.out.2.1, HF.out.2.2.1, HF.out.2.2.2⟩
              case measure => simp [intOf]; omega
          · refine opH_run 4 39 (.tuple #[.int .i64 x0, goInt st]) W1 rfl (by kernel_rfl) (by kernel_rfl) (exec_entry (m := .tmp 35) (k := .tmp 36) rfl (by kernel_rfl) (by kernel_rfl) HR2.out) trivial ?_
            simp only [List.setIfInBounds_toArray, List.set_cons_zero, List.set_cons_succ]
            refine takeH 5 40 (goInt st) rfl (by kernel_rfl) (by kernel_rfl) (by kernel_rfl) (by kernel_rfl) (fun _ _ _ h => h) (by kernel_rfl) (fun w hw => by go_simp) trivial ?_
            simp only [List.setIfInBounds_toArray, List.set_cons_zero, List.set_cons_succ]
            refine stepH_run 2 37 (.int .i64 x0) W1 rfl (by kernel_rfl) (by kernel_rfl) (by kernel_rfl) (exec_lookup (m := .tmp 35) (k := .tmp 36) rfl (by kernel_rfl) (by kernel_rfl) HR3.out) trivial ?_
            simp only [List.setIfInBounds_toArray, List.set_cons_zero, List.set_cons_succ]
            refine takeH 3 38 (.int .i64 (IntKind.i64.wrap (x0 + 1))) rfl (by kernel_rfl) (by kernel_rfl) (by kernel_rfl) (by kernel_rfl) (fun _ _ _ h => h) (by kernel_rfl) (fun w hw => by go_simp) trivial ?_
            simp only [List.setIfInBounds_toArray, List.set_cons_zero, List.set_cons_succ]
            refine stepH_one 6 (by kernel_rfl) ?_
            refine opH_store 6 W2 rfl (by kernel_rfl) (by kernel_rfl) (exec_estore (m := .tmp 35) (s := .tmp 40) (x := .tmp 38) rfl (by kernel_rfl) (by kernel_rfl) (by kernel_rfl) HR4.out) trivial ?_
            refine wpAnyH_done (by kernel_rfl) ?_ _
            clear hH
            go_wp2
            refine wp_region_held_drew (S := fun _ => True) (by kernel_rfl) trivial (fun hH => ?_)
            change wpAnyH Tryz.prog Region.Mode.any _ _ _ 8 _ _ _
            refine takeH 0 41 (.map (some B)) rfl (by kernel_rfl) (by kernel_rfl) (by kernel_rfl) (by kernel_rfl) (fun _ _ _ h => h) (by kernel_rfl) (fun w hw => by kernel_rfl) trivial ?_
            simp only [List.setIfInBounds_toArray, List.set_cons_zero, List.set_cons_succ]
            refine takeH 1 42 (.int .i64 tn) rfl (by kernel_rfl) (by kernel_rfl) (by kernel_rfl) (by kernel_rfl) (fun _ _ _ h => h) (by kernel_rfl) (fun w hw => by kernel_rfl) trivial ?_
            simp only [List.setIfInBounds_toArray, List.set_cons_zero, List.set_cons_succ]
            refine takeH 2 43 (pr 2 tn) rfl (by kernel_rfl) (by kernel_rfl) (by kernel_rfl) (by kernel_rfl) (fun _ _ _ h => h) (by kernel_rfl) (fun w hw => by kernel_rfl) trivial ?_
            simp only [List.setIfInBounds_toArray, List.set_cons_zero, List.set_cons_succ]
            refine stepH_two 3 5 (by kernel_rfl) ?_ ?_
            · refine opH_run 3 44 (.int .i64 y0) W2.drew rfl (by kernel_rfl) (by kernel_rfl) (exec_lookup (m := .tmp 41) (k := .tmp 43) rfl (by kernel_rfl) (by kernel_rfl) HS1.out) trivial ?_
              simp only [List.setIfInBounds_toArray, List.set_cons_zero, List.set_cons_succ]
              refine takeH 4 45 (.int .i64 (IntKind.i64.wrap (y0 + 1))) rfl (by kernel_rfl) (by kernel_rfl) (by kernel_rfl) (by kernel_rfl) (fun _ _ _ h => h) (by kernel_rfl) (fun w hw => by go_simp) trivial ?_
              simp only [List.setIfInBounds_toArray, List.set_cons_zero, List.set_cons_succ]
              refine stepH_run 5 46 (.tuple #[.int .i64 y0, goInt su]) Z1 rfl (by kernel_rfl) (by kernel_rfl) (by kernel_rfl) (exec_entry (m := .tmp 41) (k := .tmp 43) rfl (by kernel_rfl) (by kernel_rfl) HS2.out) trivial ?_
              simp only [List.setIfInBounds_toArray, List.set_cons_zero, List.set_cons_succ]
              refine takeH 6 47 (goInt su) rfl (by kernel_rfl) (by kernel_rfl) (by kernel_rfl) (by kernel_rfl) (fun _ _ _ h => h) (by kernel_rfl) (fun w hw => by go_simp) trivial ?_
              simp only [List.setIfInBounds_toArray, List.set_cons_zero, List.set_cons_succ]
              refine stepH_one 7 (by kernel_rfl) ?_
              refine opH_store 7 Z2 rfl (by kernel_rfl) (by kernel_rfl) (exec_estore (m := .tmp 41) (s := .tmp 47) (x := .tmp 45) rfl (by kernel_rfl) (by kernel_rfl) (by kernel_rfl) HS4.out) trivial ?_
              refine wpAnyH_done (by kernel_rfl) ?_ _
              clear hH
              go_wp2
              go_roundw
              case rel => exact ⟨k + 1, by omega, by go_num, HF.out.1, HF.out.2.1, HF.out.2.2.1, HF.out.2.2.2⟩
              case measure => simp [intOf]; omega
            · refine opH_run 5 46 (.tuple #[.int .i64 y0, goInt su]) Z1 rfl (by kernel_rfl) (by kernel_rfl) (exec_entry (m := .tmp 41) (k := .tmp 43) rfl (by kernel_rfl) (by kernel_rfl) HS2.out) trivial ?_
              simp only [List.setIfInBounds_toArray, List.set_cons_zero, List.set_cons_succ]
              refine takeH 6 47 (goInt su) rfl (by kernel_rfl) (by kernel_rfl) (by kernel_rfl) (by kernel_rfl) (fun _ _ _ h => h) (by kernel_rfl) (fun w hw => by go_simp) trivial ?_
              simp only [List.setIfInBounds_toArray, List.set_cons_zero, List.set_cons_succ]
              refine stepH_run 3 44 (.int .i64 y0) Z1 rfl (by kernel_rfl) (by kernel_rfl) (by kernel_rfl) (exec_lookup (m := .tmp 41) (k := .tmp 43) rfl (by kernel_rfl) (by kernel_rfl) HS3.out) trivial ?_
              simp only [List.setIfInBounds_toArray, List.set_cons_zero, List.set_cons_succ]
              refine takeH 4 45 (.int .i64 (IntKind.i64.wrap (y0 + 1))) rfl (by kernel_rfl) (by kernel_rfl) (by kernel_rfl) (by kernel_rfl) (fun _ _ _ h => h) (by kernel_rfl) (fun w hw => by go_simp) trivial ?_
              simp only [List.setIfInBounds_toArray, List.set_cons_zero, List.set_cons_succ]
              refine stepH_one 7 (by kernel_rfl) ?_
              refine opH_store 7 Z2 rfl (by kernel_rfl) (by kernel_rfl) (exec_estore (m := .tmp 41) (s := .tmp 47) (x := .tmp 45) rfl (by kernel_rfl) (by kernel_rfl) (by kernel_rfl) HS4.out) trivial ?_
              refine wpAnyH_done (by kernel_rfl) ?_ _
              clear hH
              go_wp2
              go_roundw
              case rel => exact ⟨k + 1, by omega, by go_num, HF.out.1, HF.out.2.1, HF.out.2.2.1, HF.out.2.2.2⟩
              case measure => simp [intOf]; omega
    · have hi : ¬ (k : Int) < n := by omega
      have hi2 : (n : Int) ≤ k := by omega
      obtain rfl : k = n := by omega
      have hln := HM.out.len
      have HE : Hid (xs.take k = xs) := Hid.mk (by have := HL.out; exact List.take_of_length_le (by omega))
      rw [HE.out] at hln
      go_wp2
      go_ret
      exact ⟨rfl, by rw [HBB.out]; exact HB.out⟩
end Go.Proofs.YtehaoeclnmelhabGreat
