/-
  Split of the program, at a path that begins with a slash and is not too long.
-/
import Derived.Test.YtbahbhaoimabdaaPtOrd
namespace Go.Proofs.Ytbahbhaoimabdaa
open Go Go.Proofs Go.RowKit Go.Shelf
attribute [local go_sem] Oper.semAt_some

set_option maxRecDepth 100000 in
set_option maxHeartbeats 4000000 in
theorem split_in (w : World) (r : List UInt8) (hr : r.length < 500) :
    Calls Try.prog 22 #[strV (47 :: r)] w fun e w' => ∃ v, e = .returned (.tuple #[v, .int .i64 (splE (splitL (47 :: r)))]) ∧ w'.ownsRow w.heap.size 9 1 v (splL (splitL (47 :: r))).length (Sy (splL (splitL (47 :: r)))) ∧ Below w.heap.size w w' := by
  have HP := Hid.mk (fun W => strings_HasPrefix (mkS (47 :: r)) ⟨#[47]⟩ W)
  rw [show Lib.hasPrefix (mkS (47 :: r)).data.toList (ByteArray.mk #[47]).data.toList = true from by simp [mkS, Lib.hasPrefix]] at HP
  have hsz : (mkS (47 :: r)).size = r.length + 1 := by rw [mkS_size]; rfl
  have hs500 : ¬ (500 : Int) < (mkS (47 :: r)).size := by omega
  have hs500' : ((mkS (47 :: r)).size : Int) ≤ 500 := by omega
  unfold strV
  have HV : Hid (Value.string (mkS (47 :: r)) = strV (47 :: r)) := Hid.mk rfl
  obtain ⟨s, hs⟩ : ∃ s, s = mkS (47 :: r) := ⟨_, rfl⟩
  rw [← hs] at HP hs500 hs500' HV ⊢
  clear hs hsz
  refine (callsIn_wide (n := 5)).1 ?_
  refine callsIn_of_wp_marks Try.func22 rfl trivial ?_ rfl
  simp only [Try.ntmps22, List.size_toArray, List.length_cons, List.length_nil, Nat.reduceAdd, Nat.reduceSub, Array.replicate_succ, Array.replicate_zero, List.push_toArray, List.append_toArray, List.nil_append, List.cons_append]
  gi_wp2_with (first
    | (refine ⟨trivial, ?_⟩; gi_at_call 32; refine (callsIn_wide.2 (HP.out _)).mono ?_; rintro e w' ⟨rfl, hw⟩; subst w')
    | (refine ⟨trivial, ?_⟩; gi_at_call 33; refine (callsIn_wide.2 (pparts_any _ _)).mono ?_; rintro e w' ⟨rfl, hw⟩; subst w'))
  try simp only [World.size_alloc]
  have q0 := blk_new w (.cells #[.slice none 0 0] 31)
  have q1 := blk_new (w.alloc (.cells #[.slice none 0 0] 31)) (.cells #[.int .i64 0] 25)
  have q2 := blk_new ((w.alloc (.cells #[.slice none 0 0] 31)).alloc (.cells #[.int .i64 0] 25)) (.cells #[.slice none 0 0] 31)
  have q3 := blk_new (((w.alloc (.cells #[.slice none 0 0] 31)).alloc (.cells #[.int .i64 0] 25)).alloc (.cells #[.slice none 0 0] 31)) (.cells #[.string s] 9)
  simp only [World.size_alloc] at q1 q2 q3
  obtain ⟨W0, hW0⟩ : ∃ W0, W0 = (((w.alloc (.cells #[.slice none 0 0] 31)).alloc (.cells #[.int .i64 0] 25)).alloc (.cells #[.slice none 0 0] 31)).alloc (.cells #[.string s] 9) := ⟨_, rfl⟩
  have z0 : W0.heap[w.heap.size]? = some (.cells #[.slice none 0 0] 31 (0, 0)) := by
    rw [hW0, Below.heap_alloc _ _ _ (by simp; omega), Below.heap_alloc _ _ _ (by simp; omega), Below.heap_alloc _ _ _ (by simp)]; exact q0
  have z1 : W0.heap[w.heap.size + 1]? = some (.cells #[.int .i64 0] 25 (0, 0)) := by
    rw [hW0, Below.heap_alloc _ _ _ (by simp [World.size_alloc] <;> omega), Below.heap_alloc _ _ _ (by simp)]; exact q1
  have z2 : W0.heap[w.heap.size + 1 + 1]? = some (.cells #[.slice none 0 0] 31 (0, 0)) := by
    rw [hW0, Below.heap_alloc _ _ _ (by simp)]; exact q2
  have z3 : W0.heap[w.heap.size + 1 + 1 + 1]? = some (.cells #[strV (47 :: r)] 9 (0, 0)) := by rw [hW0, ← HV.out]; exact q3
  have zs : W0.heap.size = w.heap.size + 4 := by rw [hW0]; simp
  have zb : Below w.heap.size w W0 := by
    rw [hW0]
    exact ((((Below.refl _ w).alloc (Nat.le_refl _) _).alloc (by simp) _).alloc (by simp; omega) _).alloc (by simp; omega) _
  rw [← hW0]
  clear q0 q1 q2 q3 hW0
  have hseq := parts_stops 4 (by omega) (w.heap.size + 1 + 1 + 1) r (by omega) W0 z3
  refine wpIn_rangeFunc_ownF rfl (by omega) (gf := 52) (lb := #[.pointer (some ⟨w.heap.size + 1 + 1 + 1, 0, none⟩)]) rfl trivial (enters_of Try.func52 (by kernel_rfl) rfl)
    hseq (fun _ _ => trivial) (fun _ _ _ _ _ _ _ _ => trivial) (Below.refl _ _) (fun _ => rfl)
    (PI r w) (PX r w) (by rw [zs]; exact PI_own r w) (by rw [zs]; exact PX_own r w) ?start
    (fun x => { tmps := #[.string s, undef, .pointer (some ⟨w.heap.size, 0, none⟩), .pointer (some ⟨w.heap.size + 1, 0, none⟩), .pointer (some ⟨w.heap.size + 1 + 1, 0, none⟩), strV (pcA r x), .string s, .bool true, .bool false, .bool false, .string s, .int .i64 (s.size : Nat), .bool (decide ((500 : Int) < (s.size : Nat))), .bool (decide ((500 : Int) < (s.size : Nat))), .string s,
      .func (.func 52) #[] #[.pointer (some ⟨w.heap.size + 1 + 1 + 1, 0, none⟩)], strV (pcA r x), undef, undef, undef, undef, undef, undef, undef, undef, undef], defers := [] }) ?assign ?body ?done ?stop
  case start => exact ⟨fun q hq => (by cases hq), z0, z1, ⟨_, z2, World.ownsRow_nil _ _ _ _⟩, zb, by omega⟩
  case assign =>
    intro l x W K hK
    dsimp only [pcV]
    gi_wp2
    exact hK
  case body =>
    rintro lp pre x W hI hlen
    obtain ⟨v, hv, hown⟩ := hI.out
    have c0 := blk_cell hI.r0 0
    have f0 := blk_free hI.r0 0
    have c1 := blk_cell hI.r1 0
    have f1 := blk_free hI.r1 0
    have c2 := blk_cell hv 0
    have f2 := blk_free hv 0
    simp at c0 c1 c2
    have HMB := Hid.mk (fun W1 => maybe_any W1 (pcA r x) (by have := pcA_short r x; omega))
    have HI := Hid.mk hI
    have HVV := Hid.mk hv
    have HOWN := Hid.mk hown
    have HXS := Hid.mk (pcA_short r x)
    have HLEN := Hid.mk hlen
    clear hI hv hown z0 z1 z2 z3 zb zs hseq hlen
    cases hg : mayB (pcA r x) with
    | false =>
      have HG := Hid.mk hg
      rw [hg] at HMB
      clear hg
      gi_wp2_with (refine ⟨trivial, ?_⟩; gi_at_call 34; refine (CallsIn.inRound lp (callsIn_wide.2 (HMB.out _))).mono ?_; rintro e w' ⟨rfl, hw⟩; subst w')
      obtain hI := HI.out
      refine ⟨(KeepsOthers.setCell _ _ _).trans (KeepsOthers.setCell _ _ _), rfl, ⟨x, by simp, HG.out⟩, ?_, ?_, (hI.below.setCell (p := ⟨w.heap.size, 0, none⟩) (Nat.le_refl _) _).setCell (p := ⟨w.heap.size + 1, 0, none⟩) (Nat.le_succ _) _, by simpa [World.setCell] using hI.size⟩
      · rw [Below.heap_setCell _ _ _ _ (by simp), blk_set hI.r0]
        simp
      · rw [blk_set (c := #[.int .i64 0]) (by rw [Below.heap_setCell _ _ _ _ (by simp)]; exact hI.r1)]
        simp
    | true =>
      have HG := Hid.mk hg
      rw [hg] at HMB
      clear hg
      have HCL : Hid (∀ W1, Calls Try.prog 35 #[strV (pcA r x)] W1 fun e w' => e = .returned (strV (pcA r x)) ∧ Below W1.heap.size W1 w') := Hid.mk (fun W1 => clone_any W1 (mkS (pcA r x)) (by rw [mkS_size]; have := pcA_short r x; omega))
      gi_wp2_with (refine ⟨trivial, ?_⟩; gi_at_call 34; refine (CallsIn.inRound lp (callsIn_wide.2 (HMB.out _))).mono ?_; rintro e w' ⟨rfl, hw⟩; subst w')
      clear HMB
      have mixed : Try.prog.follows Departure.mixedOrders = true := by kernel_rfl
      refine wpIn_region_any mixed ?_
      obtain ⟨p, hp⟩ : ∃ p, p = pcA r x := ⟨_, rfl⟩
      rw [← hp] at HCL ⊢
      have HPX := Hid.mk hp
      clear hp
      have HT : Hid (∀ W3, Below W.heap.size W W3 → W3.cell? ⟨w.heap.size + 1 + 1, 0, none⟩ = some v) := Hid.mk (fun W3 h => by
        rw [blk_cell ((h.block _ (lt_of_block HVV.out)).trans HVV.out)]; rfl)
      have FIN : Hid (∀ W3, Below W.heap.size W W3 → ∃ ao l4 c4 W4, (Builtin.append_ #[31, 31] 31 #[v, .slice (some ⟨W3.heap.size, 0, none⟩) 1 1]).run Try.prog (W3.alloc (.cells #[strV p] 9)) = .ok (.slice ao l4 c4) W4 ∧ W4.cell? ⟨w.heap.size + 1 + 1, 0, none⟩ = some v ∧ W4.frozen? ⟨w.heap.size + 1 + 1, 0, none⟩ = false ∧ KeepsOthers W (W4.setCell ⟨w.heap.size + 1 + 1, 0, none⟩ (.slice ao l4 c4)) ∧ PI r w (pre ++ [x]) (W4.setCell ⟨w.heap.size + 1 + 1, 0, none⟩ (.slice ao l4 c4))) := Hid.mk (fun W3 h3 => by
        have hown3 : W3.ownsRow (w.heap.size + 4) 9 1 v pre.length (Sy (pre.map (pcA r))) := owns_at HOWN.out (fun j e => h3.block j (HOWN.out.lt j e).2)
        obtain ⟨v', W4, hr4, ho4, hon4⟩ := append9_run W3 (w.heap.size + 4) v pre.length _ p hown3 (Nat.le_trans HI.out.size h3.size) (by have := HLEN.out; have := parts_count r; omega)
        rw [HPX.out] at ho4
        have hst := PI.step HI.out HVV.out HOWN.out h3 hon4 ho4 HG.out
        obtain ⟨ao, c4, rfl, -⟩ := owns_SAt ho4
        have hb4 : W4.heap[w.heap.size + 1 + 1]? = some (.cells #[v] 31 (0, 0)) := by
          rw [hon4.block _ (by have := h3.size; have := HI.out.size; omega) (fun e => by have := (HOWN.out.lt _ e).1; omega), h3.block _ (by have := HI.out.size; omega)]
          exact HVV.out
        refine ⟨ao, _, c4, W4, hr4, ?_, blk_free hb4 0, hst.1, hst.2⟩
        rw [blk_cell hb4]; rfl)
      refine wpAnyIn_all (rs := [0, 1]) (by kernel_rfl) (by simp) (fun i hi => ?_)
      obtain rfl | rfl : i = 0 ∨ i = 1 := by simpa using hi
      · refine opIn_run 0 20 v _ rfl rfl rfl (by intro c hc; cases hc) rfl (exec_load1 rfl rfl (HT.out _ ⟨rfl, rfl, rfl, Nat.le_refl _, fun _ _ => rfl⟩)) ?_
        simp only [List.setIfInBounds_toArray, List.set_cons_succ, List.set_cons_zero]
        refine wpAnyIn_all (rs := [1]) (by kernel_rfl) (by simp) (fun i hi => ?_)
        obtain rfl : i = 1 := by simpa using hi
        refine opIn_run 1 21 (strV p) _ rfl rfl rfl (by intro c hc; cases hc) rfl (exec_move1 rfl rfl) ?_
        simp only [List.setIfInBounds_toArray, List.set_cons_succ, List.set_cons_zero]
        refine wpAnyIn_all (rs := [2]) (by kernel_rfl) (by simp) (fun i hi => ?_)
        obtain rfl : i = 2 := by simpa using hi
        refine opIn_call (by omega) 2 22 rfl rfl rfl 35 _ _ rfl trivial (enters_of Try.func35 (by kernel_rfl) rfl) #[strV p] (by simp [Act.eval]) (CallsIn.inRound lp (callsIn_wide.2 (HCL.out _))) ?_
        rintro e W3 ⟨rfl, hB3⟩
        have HB3 : Below W.heap.size W W3 := ⟨hB3.os, hB3.tape, hB3.output, hB3.size, hB3.block⟩
        clear hB3
        refine ⟨_, rfl, ?_⟩
        simp only [List.setIfInBounds_toArray, List.set_cons_succ, List.set_cons_zero]
        refine wpAnyIn_all (rs := [3]) (by kernel_rfl) (by simp) (fun i hi => ?_)
        obtain rfl : i = 3 := by simpa using hi
        refine opIn_run 3 23 _ _ rfl rfl rfl (by intro c hc; cases hc) rfl (exec_one9 rfl rfl) ?_
        simp only [List.setIfInBounds_toArray, List.set_cons_succ, List.set_cons_zero]
        obtain ⟨ao, l4, c4, W4, hr4, hc4, hf4, hfin⟩ := FIN.out W3 HB3
        refine wpAnyIn_all (rs := [4]) (by kernel_rfl) (by simp) (fun i hi => ?_)
        obtain rfl : i = 4 := by simpa using hi
        refine opIn_run 4 24 (.slice ao l4 c4) W4 rfl rfl rfl (by intro c hc; cases hc) (about_call rfl) (exec_append1 rfl rfl rfl hr4) ?_
        simp only [List.setIfInBounds_toArray, List.set_cons_succ, List.set_cons_zero]
        refine wpAnyIn_all (rs := [5]) (by kernel_rfl) (by simp) (fun i hi => ?_)
        obtain rfl : i = 5 := by simpa using hi
        refine opIn_store 5 _ rfl rfl rfl (by intro c hc; cases hc) rfl (exec_store1 rfl rfl rfl hc4 hf4) ?_
        refine wpAnyIn_done (by kernel_rfl) ?_ _
        exact ⟨hfin.1, trivial, hfin.2⟩
      · refine opIn_run 1 21 (strV p) _ rfl rfl rfl (by intro c hc; cases hc) rfl (exec_move1 rfl rfl) ?_
        simp only [List.setIfInBounds_toArray, List.set_cons_succ, List.set_cons_zero]
        refine wpAnyIn_all (rs := [0, 2]) (by kernel_rfl) (by simp) (fun i hi => ?_)
        obtain rfl | rfl : i = 0 ∨ i = 2 := by simpa using hi
        · refine opIn_run 0 20 v _ rfl rfl rfl (by intro c hc; cases hc) rfl (exec_load1 rfl rfl (HT.out _ ⟨rfl, rfl, rfl, Nat.le_refl _, fun _ _ => rfl⟩)) ?_
          simp only [List.setIfInBounds_toArray, List.set_cons_succ, List.set_cons_zero]
          refine wpAnyIn_all (rs := [2]) (by kernel_rfl) (by simp) (fun i hi => ?_)
          obtain rfl : i = 2 := by simpa using hi
          refine opIn_call (by omega) 2 22 rfl rfl rfl 35 _ _ rfl trivial (enters_of Try.func35 (by kernel_rfl) rfl) #[strV p] (by simp [Act.eval]) (CallsIn.inRound lp (callsIn_wide.2 (HCL.out _))) ?_
          rintro e W3 ⟨rfl, hB3⟩
          have HB3 : Below W.heap.size W W3 := ⟨hB3.os, hB3.tape, hB3.output, hB3.size, hB3.block⟩
          clear hB3
          refine ⟨_, rfl, ?_⟩
          simp only [List.setIfInBounds_toArray, List.set_cons_succ, List.set_cons_zero]
          refine wpAnyIn_all (rs := [3]) (by kernel_rfl) (by simp) (fun i hi => ?_)
          obtain rfl : i = 3 := by simpa using hi
          refine opIn_run 3 23 _ _ rfl rfl rfl (by intro c hc; cases hc) rfl (exec_one9 rfl rfl) ?_
          simp only [List.setIfInBounds_toArray, List.set_cons_succ, List.set_cons_zero]
          obtain ⟨ao, l4, c4, W4, hr4, hc4, hf4, hfin⟩ := FIN.out W3 HB3
          refine wpAnyIn_all (rs := [4]) (by kernel_rfl) (by simp) (fun i hi => ?_)
          obtain rfl : i = 4 := by simpa using hi
          refine opIn_run 4 24 (.slice ao l4 c4) W4 rfl rfl rfl (by intro c hc; cases hc) (about_call rfl) (exec_append1 rfl rfl rfl hr4) ?_
          simp only [List.setIfInBounds_toArray, List.set_cons_succ, List.set_cons_zero]
          refine wpAnyIn_all (rs := [5]) (by kernel_rfl) (by simp) (fun i hi => ?_)
          obtain rfl : i = 5 := by simpa using hi
          refine opIn_store 5 _ rfl rfl rfl (by intro c hc; cases hc) rfl (exec_store1 rfl rfl rfl hc4 hf4) ?_
          refine wpAnyIn_done (by kernel_rfl) ?_ _
          exact ⟨hfin.1, trivial, hfin.2⟩
        · refine opIn_call (by omega) 2 22 rfl rfl rfl 35 _ _ rfl trivial (enters_of Try.func35 (by kernel_rfl) rfl) #[strV p] (by simp [Act.eval]) (CallsIn.inRound lp (callsIn_wide.2 (HCL.out _))) ?_
          rintro e W3 ⟨rfl, hB3⟩
          have HB3 : Below W.heap.size W W3 := ⟨hB3.os, hB3.tape, hB3.output, hB3.size, hB3.block⟩
          clear hB3
          refine ⟨_, rfl, ?_⟩
          simp only [List.setIfInBounds_toArray, List.set_cons_succ, List.set_cons_zero]
          refine wpAnyIn_all (rs := [0, 3]) (by kernel_rfl) (by simp) (fun i hi => ?_)
          obtain rfl | rfl : i = 0 ∨ i = 3 := by simpa using hi
          · refine opIn_run 0 20 v _ rfl rfl rfl (by intro c hc; cases hc) rfl (exec_load1 rfl rfl (HT.out _ HB3)) ?_
            simp only [List.setIfInBounds_toArray, List.set_cons_succ, List.set_cons_zero]
            refine wpAnyIn_all (rs := [3]) (by kernel_rfl) (by simp) (fun i hi => ?_)
            obtain rfl : i = 3 := by simpa using hi
            refine opIn_run 3 23 _ _ rfl rfl rfl (by intro c hc; cases hc) rfl (exec_one9 rfl rfl) ?_
            simp only [List.setIfInBounds_toArray, List.set_cons_succ, List.set_cons_zero]
            obtain ⟨ao, l4, c4, W4, hr4, hc4, hf4, hfin⟩ := FIN.out W3 HB3
            refine wpAnyIn_all (rs := [4]) (by kernel_rfl) (by simp) (fun i hi => ?_)
            obtain rfl : i = 4 := by simpa using hi
            refine opIn_run 4 24 (.slice ao l4 c4) W4 rfl rfl rfl (by intro c hc; cases hc) (about_call rfl) (exec_append1 rfl rfl rfl hr4) ?_
            simp only [List.setIfInBounds_toArray, List.set_cons_succ, List.set_cons_zero]
            refine wpAnyIn_all (rs := [5]) (by kernel_rfl) (by simp) (fun i hi => ?_)
            obtain rfl : i = 5 := by simpa using hi
            refine opIn_store 5 _ rfl rfl rfl (by intro c hc; cases hc) rfl (exec_store1 rfl rfl rfl hc4 hf4) ?_
            refine wpAnyIn_done (by kernel_rfl) ?_ _
            exact ⟨hfin.1, trivial, hfin.2⟩
          · refine opIn_run 3 23 _ _ rfl rfl rfl (by intro c hc; cases hc) rfl (exec_one9 rfl rfl) ?_
            simp only [List.setIfInBounds_toArray, List.set_cons_succ, List.set_cons_zero]
            refine wpAnyIn_all (rs := [0]) (by kernel_rfl) (by simp) (fun i hi => ?_)
            obtain rfl : i = 0 := by simpa using hi
            refine opIn_run 0 20 v _ rfl rfl rfl (by intro c hc; cases hc) rfl (exec_load1 rfl rfl (HT.out _ (HB3.trans ((Below.refl _ W3).alloc HB3.size _)))) ?_
            simp only [List.setIfInBounds_toArray, List.set_cons_succ, List.set_cons_zero]
            obtain ⟨ao, l4, c4, W4, hr4, hc4, hf4, hfin⟩ := FIN.out W3 HB3
            refine wpAnyIn_all (rs := [4]) (by kernel_rfl) (by simp) (fun i hi => ?_)
            obtain rfl : i = 4 := by simpa using hi
            refine opIn_run 4 24 (.slice ao l4 c4) W4 rfl rfl rfl (by intro c hc; cases hc) (about_call rfl) (exec_append1 rfl rfl rfl hr4) ?_
            simp only [List.setIfInBounds_toArray, List.set_cons_succ, List.set_cons_zero]
            refine wpAnyIn_all (rs := [5]) (by kernel_rfl) (by simp) (fun i hi => ?_)
            obtain rfl : i = 5 := by simpa using hi
            refine opIn_store 5 _ rfl rfl rfl (by intro c hc; cases hc) rfl (exec_store1 rfl rfl rfl hc4 hf4) ?_
            refine wpAnyIn_done (by kernel_rfl) ?_ _
            exact ⟨hfin.1, trivial, hfin.2⟩
  case done =>
    rintro D ys W hD rfl hI hK
    have hDw : w.heap.size ≤ D := by omega
    obtain ⟨v, hv, hown⟩ := hI.out
    have hall : (partsL r).all mayB = true := by
      rw [← parts_range r, List.all_map, List.all_eq_true]
      exact fun q hq => hI.all q hq
    have hsp : splitL (47 :: r) = some (partsL r) := by
      simp only [splitL]
      rw [if_pos ⟨trivial, hr, hall⟩]
    rw [parts_range, List.length_range'] at hown
    have HSP := Hid.mk hsp
    obtain ⟨ao, c, rfl, hS, hlo, -⟩ := owns_SAt hown
    have c0 := blk_cell hI.r0 0
    have f0 := blk_free hI.r0 0
    have c1 := blk_cell hI.r1 0
    have f1 := blk_free hI.r1 0
    have c2 := blk_cell hv 0
    simp at c0 c1 c2
    have HI := Hid.mk hI
    have HOWN := Hid.mk hown
    clear hI hv hown z0 z1 z2 z3 zb zs hseq hS hlo hsp hall
    gi_wp2
    have hI := HI.out
    obtain ⟨Y, hY⟩ : ∃ Y, Y = (W.setCell ⟨w.heap.size, 0, none⟩ (.slice ao (partsL r).length c)).setCell ⟨w.heap.size + 1, 0, none⟩ (.int .i64 0) := ⟨_, rfl⟩
    have k1 : Y.heap[w.heap.size]? = some (.cells #[.slice ao (partsL r).length c] 31 (0, 0)) := by
      rw [hY, Below.heap_setCell _ _ _ _ (by simp), blk_set hI.r0]
      simp
    have k2 : Y.heap[w.heap.size + 1]? = some (.cells #[.int .i64 0] 25 (0, 0)) := by
      rw [hY, blk_set (c := #[.int .i64 0]) (by rw [Below.heap_setCell _ _ _ _ (by simp)]; exact hI.r1)]
      simp
    have kB : Below w.heap.size w Y := by
      rw [hY]
      exact (hI.below.setCell (p := ⟨w.heap.size, 0, none⟩) (Nat.le_refl _) _).setCell (p := ⟨w.heap.size + 1, 0, none⟩) (Nat.le_succ _) _
    have hK' : Y.heap[D]? = some (.deferred (some [])) := by
      rw [hY]
      exact ((KeepsOthers.setCell W ⟨w.heap.size, 0, none⟩ (.slice ao (partsL r).length c)).trans (KeepsOthers.setCell _ ⟨w.heap.size + 1, 0, none⟩ (.int .i64 0))).same D _ hK rfl
    have kO : Y.ownsRow w.heap.size 9 1 (.slice ao (partsL r).length c) (partsL r).length (Sy (partsL r)) := by
      refine owns_base (owns_at HOWN.out (fun j e => ?_)) (show w.heap.size ≤ w.heap.size + 4 by omega)
      have := (HOWN.out.lt j e).1
      rw [hY, Below.heap_setCell _ _ _ _ (by show j ≠ w.heap.size + 1; omega), Below.heap_setCell _ _ _ _ (by show j ≠ w.heap.size; omega)]
    rw [← hY]
    clear hY
    have hnc : ∀ r, some D = some r → ∃ o : Obj, Y.heap[r]? = some o ∧ o.isCells = false := fun r e => by cases e; exact ⟨_, hK', rfl⟩
    have m1 : Y.cell? ⟨w.heap.size, 0, none⟩ = some (.slice ao (partsL r).length c) := by rw [blk_cell k1]; rfl
    have m2 : Y.cell? ⟨w.heap.size + 1, 0, none⟩ = some (.int .i64 0) := by rw [blk_cell k2]; rfl
    have c1 := cell_kept m1 (grownBy_putObj' _ D (.deferred none)) hnc
    have c2 := cell_kept m2 (grownBy_putObj' _ D (.deferred none)) hnc
    refine ⟨by simp, .inl ⟨_, _, rfl, run_takeDeferred hK', ?_⟩⟩
    refine ⟨.tuple #[.slice ao (partsL r).length c, .int .i64 0], ?_, .slice ao (partsL r).length c, ?_, ?_, ?_⟩
    · simp [results, Try.f22, go_sem, c1, c2]
    · rw [HSP.out]; rfl
    · rw [HSP.out]
      refine owns_at kO (fun j e => ?_)
      obtain ⟨cc, t, fr, hcc⟩ := owns_isC kO j e
      rw [keep_cells hcc (grownBy_putObj' _ D (.deferred none)) hnc, hcc]
    · exact kB.trans (belowK_b (w := w) (Nat.le_refl _) Y D _ _ hDw hK' rfl rfl)
  case stop =>
    rintro D c pre W hD ⟨k, hk, hpre⟩ hX hK
    have hDw : w.heap.size ≤ D := by omega
    have hret := hX.ret
    subst hret
    have hsp : splitL (47 :: r) = none := by
      simp only [splitL]
      rw [if_neg]
      rintro ⟨_, _, hall⟩
      obtain ⟨q, hq, hb⟩ := hX.bad
      rw [← parts_range r, List.all_map, List.all_eq_true] at hall
      have := hall q (by
        rw [hpre] at hq
        simp [List.mem_range'] at hq ⊢
        omega)
      simp [hb] at this
    have HSP := Hid.mk hsp
    have HX := Hid.mk hX
    clear hX hsp z0 z1 z2 z3 zb zs hseq hpre
    gi_wp2
    have hX := HX.out
    have hnc : ∀ r, some D = some r → ∃ o : Obj, W.heap[r]? = some o ∧ o.isCells = false := fun r e => by cases e; exact ⟨_, hK, rfl⟩
    have m1 : W.cell? ⟨w.heap.size, 0, none⟩ = some (.slice none 0 0) := by rw [blk_cell hX.r0]; rfl
    have m2 : W.cell? ⟨w.heap.size + 1, 0, none⟩ = some (.int .i64 15) := by rw [blk_cell hX.r1]; rfl
    have c1 := cell_kept m1 (grownBy_putObj' _ D (.deferred none)) hnc
    have c2 := cell_kept m2 (grownBy_putObj' _ D (.deferred none)) hnc
    refine ⟨by simp, .inl ⟨_, _, rfl, run_takeDeferred hK, ?_⟩⟩
    refine ⟨.tuple #[.slice none 0 0, .int .i64 15], ?_, .slice none 0 0, ?_, ?_, ?_⟩
    · simp [results, Try.f22, go_sem, c1, c2]
    · rw [HSP.out]; rfl
    · rw [HSP.out]; exact World.ownsRow_nil _ _ _ _
    · exact hX.below.trans (belowK_b (w := w) (Nat.le_refl _) W D _ _ hDw hK rfl rfl)

/-- Split, at every string. -/
theorem split_any (w : World) (s : ByteArray) (hs : s.size ≤ 16777216) :
    Calls Try.prog 22 #[.string s] w fun e w' => ∃ v, e = .returned (.tuple #[v, .int .i64 (splE (splitL (ofS s)))]) ∧ w'.ownsRow w.heap.size 9 1 v (splL (splitL (ofS s))).length (Sy (splL (splitL (ofS s)))) ∧ Below w.heap.size w w' := by
  have early : (Lib.hasPrefix (ofS s) [47] = false ∨ 500 < s.size) → splitL (ofS s) = none → Calls Try.prog 22 #[.string s] w fun e w' => ∃ v, e = .returned (.tuple #[v, .int .i64 (splE (splitL (ofS s)))]) ∧ w'.ownsRow w.heap.size 9 1 v (splL (splitL (ofS s))).length (Sy (splL (splitL (ofS s)))) ∧ Below w.heap.size w w' := fun h h2 => by
    refine (split_early w s hs h).mono ?_
    rintro e w' ⟨rfl, hB⟩
    exact ⟨_, by rw [h2]; rfl, by rw [h2]; exact World.ownsRow_nil _ _ _ _, hB⟩
  cases hl : ofS s with
  | nil =>
    rw [← hl]
    exact early (.inl (by rw [hl]; rfl)) (by rw [hl]; rfl)
  | cons c r =>
    rw [← hl]
    by_cases hc : c = 47
    · subst hc
      by_cases hr : r.length < 500
      · have := split_in w r hr
        unfold strV at this
        rw [← hl, mk_of] at this
        exact this
      · have hsz : s.size = r.length + 1 := by rw [← ofS_length, hl]; rfl
        exact early (.inr (by omega)) (by rw [hl]; exact split_long (by simp; omega))
    · have hne : ((47 : UInt8) == c) = false := by
        rw [beq_eq_false_iff_ne]
        exact fun e => hc e.symm
      refine early (.inl (by rw [hl]; simp [Lib.hasPrefix, List.isPrefixOf, hne])) (by rw [hl]; simp [splitL, hc])
end Go.Proofs.Ytbahbhaoimabdaa
