/-
  The statement PatchDiffs.
-/
import Derived.Test.YtjljklfahmjngaaPaRDiff
import Derived.Test.YtjljklfahmjngaaPaSame
import Derived.Test.YtjljklfahmjngaaPaAlive
namespace Go.Proofs.Ytjljklfahmjngaa
open Go Go.Proofs Go.RowKit Go.Shelf
attribute [local go_sem] Oper.semAt_some
theorem exec_streql {ev : Operand → Value} {oi : Oper} {x y : Operand} {u : TypeId} {s t : ByteArray} {w : World} (c : Bool) (hc : (s.toList == t.toList) = c) (ho : oi.op = .binOp .eql 9 x y u) (hx : ev x = .string s) (hy : ev y = .string t) : (execOp ev oi).run Try.prog w = .ok (.value (.bool c)) w := by
  subst hc
  unfold execOp
  rw [ho]
  simp only [hx, hy]
  go_simp
theorem dfS_ok (N : Nat) (u : Nat → Bool) (ys : List Int) (hN : N ≤ 100000) (hyb : ∀ x ∈ ys, 0 ≤ x ∧ x ≤ 255) : ∀ s ∈ dfS ys (runsN N u 0) (runsN N u 0).length, I64 s.1 ∧ I64 s.2.1 ∧ ∀ x ∈ s.2.2, 0 ≤ x ∧ x ≤ 255 := by
  intro s hs
  unfold dfS at hs
  obtain ⟨j, hj, rfl⟩ := List.mem_map.1 hs
  have hj' : j < (runsN N u 0).length := List.mem_range.1 hj
  have hl := runs_len N u 0
  have hm : (runsN N u 0).getD j (0, 0) ∈ runsN N u 0 := by rw [List.getD_eq_getElem?_getD, List.getElem?_eq_getElem hj']; exact List.getElem_mem hj'
  have hr := runs_mem N u 0 _ hm
  generalize (runsN N u 0).getD j (0, 0) = r at *
  refine ⟨⟨by show _ ≤ (j : Int); omega, by show (j : Int) ≤ _; omega⟩, ⟨by show _ ≤ (r.1 : Int); omega, by show (r.1 : Int) ≤ _; omega⟩, fun x hx => hyb x (List.mem_of_mem_drop (List.mem_of_mem_take hx))⟩
theorem mk_of_diff {W : World} {base N : Nat} {u : Nat → Bool} {ys : List Int} {v : Value} {L : List Pt} (hN : N ≤ 100000) (hyb : ∀ x ∈ ys, 0 ≤ x ∧ x ≤ 255) (h1 : W.ownsRow base 31 3 v L.length (Py L)) (h2 : ∀ p ∈ L, W.ownsRow base 5 1 p.val p.n (By p.xs)) (hs : L.map Pt.see = dfS ys (runsN N u 0) (runsN N u 0).length) : MkAt W base v L := by
  refine ⟨h1, fun p hp => ⟨h2 p hp, ?_⟩⟩
  have := dfS_ok N u ys hN hyb p.see (by rw [← hs]; exact List.mem_map_of_mem hp)
  exact this
theorem pc_nil (W : World) : PcAt W none 0 [] := ⟨rfl, fun h => absurd h (Nat.lt_irrefl 0)⟩
theorem pn_nil (W : World) : PnAt W [] := fun p hp => by cases hp
set_option maxRecDepth 100000 in
set_option maxHeartbeats 8000000 in
theorem diffs_any (w : World) (a0 : Option Addr) (N c0 : Nat) (xs : List Int) (h0 : BAt w a0 N xs) (h0n : a0 = none → N = 0 ∧ c0 = 0) (a1 : Option Addr) (M c1 : Nat) (ys : List Int) (h1 : BAt w a1 M ys) (h1b : ∀ x ∈ ys, 0 ≤ x ∧ x ≤ 255) (h1c : M ≤ c1 ∧ c1 ≤ 9223372036854775807) :
    Calls Try.prog 5 #[.slice a0 N c0, .slice a1 M c1] w fun e w' => e = .returned (.bool true) ∧ Below w.heap.size w w' := by
  have HAL := Hid.mk (alive_any w)
  by_cases g0 : 3000 < N
  · have g0' : (3000 : Int) < (N : Int) := by omega
    clear h0 h1 h1b h1c h0n
    go_enter Try.func5, Try.ntmps5
    go_wp2_with (go_at_call 9; refine HAL.out.mono ?_; rintro e w1 ⟨rfl, hb1⟩; have HB1 := Hid.mk hb1; clear hb1 HAL)
    go_ret
    exact ⟨rfl, HB1.out⟩
  have g0' : ¬ (3000 : Int) < (N : Int) := by omega
  by_cases g1 : 3000 < M
  · have g1' : (3000 : Int) < (M : Int) := by omega
    clear h0 h1 h1b h1c h0n
    go_enter Try.func5, Try.ntmps5
    go_wp2_with (go_at_call 9; refine HAL.out.mono ?_; rintro e w1 ⟨rfl, hb1⟩; have HB1 := Hid.mk hb1; clear hb1 HAL)
    go_ret
    exact ⟨rfl, HB1.out⟩
  have g1' : ¬ (3000 : Int) < (M : Int) := by omega
  by_cases hNM : N = M
  · subst hNM
    have HX := Hid.mk h0
    have HY := Hid.mk h1
    have HD : Hid (∀ W, Below w.heap.size w W → Calls Try.prog 17 #[.slice a0 N c0, .slice a1 N c1] W fun e W' => ∃ lo lc L, e = .returned (.slice lo L.length lc) ∧ Hid (PcAt W' lo L.length L ∧ PnAt W' L ∧ L.map Pt.see = dfS ys (runsN N (unB xs ys) 0) (runsN N (unB xs ys) 0).length) ∧ Hid (Below w.heap.size w W')) := Hid.mk (fun W hB => (diff_yes W a0 a1 N c0 c1 xs ys (h0.below hB) (h1.below hB) (by omega) h1c).mono (by
      rintro e W' ⟨v, L, rfl, r1, r2, r3, hB'⟩
      obtain ⟨lo, lc, e1, e2, e3⟩ := (mk_of_diff (by omega) h1b r1 r2 r3).pc
      subst e1
      exact ⟨lo, lc, L, rfl, Hid.mk ⟨e2, e3, r3⟩, Hid.mk (hB.trans (hB'.mono hB.size))⟩))
    have HRD : Hid (∀ W, Below w.heap.size w W → Calls Try.prog 19 #[.slice a0 N c0, .slice a1 N c1] W fun e W' => ∃ lo lc L, e = .returned (.slice lo L.length lc) ∧ Hid (PcAt W' lo L.length L ∧ PnAt W' L ∧ L.map Pt.see = dfS ys (runsN N (unB xs ys) 0) (runsN N (unB xs ys) 0).length) ∧ Hid (Below W.heap.size W W')) := Hid.mk (fun W hB => (rdiff_yes W a0 a1 N c0 c1 xs ys (h0.below hB) (h1.below hB) (by omega) h1b).mono (by
      rintro e W' ⟨v, L, rfl, r1, r3, hB'⟩
      obtain ⟨lo, lc, e1, e2, e3⟩ := r1.pc
      subst e1
      exact ⟨lo, lc, L, rfl, Hid.mk ⟨e2, e3, r3⟩, Hid.mk hB'⟩))
    have HN : Hid (N ≤ 3000) := Hid.mk (by omega)
    have H0N := Hid.mk h0n
    have hnn : ((N : Int) == (N : Int)) = true := by simp
    clear h0 h1 h1b h1c h0n g0 g1
    go_enter Try.func5, Try.ntmps5
    go_wp2_with (first
      | (go_at_call 9; refine HAL.out.mono ?_; rintro e w1 ⟨rfl, hb1⟩; have HB1 := Hid.mk hb1; clear hb1 HAL)
      | (go_at_call 17; refine (HD.out _ HB1.out).mono ?_; rintro e w2 ⟨lo, lc, L, rfl, HL2, HB2⟩; clear HD HB1)
      | (go_at_call 19; refine (HRD.out _ HB2.out).mono ?_; rintro e w3 ⟨mo, mc, L', rfl, HL3, HB3⟩; clear HRD; obtain ⟨ll, hll⟩ : ∃ ll, ll = L'.length := ⟨_, rfl⟩; have hle : L'.length = L.length := (by have e1 := congrArg List.length HL2.out.2.2; have e2 := congrArg List.length HL3.out.2.2; simp only [List.length_map] at e1 e2; omega); rw [hle]; have HSM := Hid.mk (same_any w3 lo mo L.length lc mc L L' (HL2.out.1.below HB3.out) (HL2.out.2.1.below HB3.out) (by have := HL3.out.1; rwa [hle] at this) HL3.out.2.1 (HL2.out.2.2.trans HL3.out.2.2.symm) (by have e1 := congrArg List.length HL2.out.2.2; have e2 := runs_len N (unB xs ys) 0; simp only [List.length_map, dfS, List.length_range] at e1; have := HN.out; omega)); clear hle hll)
      | (go_at_call 18; refine HSM.out.mono ?_; rintro e w4 ⟨rfl, hb4⟩; have HB4 : Hid (Below w2.heap.size w2 w4) := Hid.mk (HB3.out.trans (hb4.mono HB3.out.size)); clear hb4 HSM HB3))
    have hB4 : Below w.heap.size w w4 := HB2.out.trans (HB4.out.mono HB2.out.size)
    have hS : BAt w4.drew a1 N ys := HY.out.below hB4.drew
    have HAPP : Hid (Calls Try.prog 11 #[.slice a0 N c0, .slice lo L.length lc, .slice none 0 0] w4.drew fun e w' => ∃ vo vc, e = .returned (.slice vo N vc) ∧ Hid (BAt w' a1 N ys) ∧ Hid (Below w.heap.size w w') ∧ Hid (BAt w' vo N ys)) := Hid.mk (by
      have hl : L.length ≤ 3000 := by
        have e1 := congrArg List.length HL2.out.2.2
        have e2 := runs_len N (unB xs ys) 0
        simp only [List.length_map, dfS, List.length_range] at e1
        have := HN.out
        omega
      have hx : BAt w4.drew a0 N xs := HX.out.below hB4.drew
      have hp1 : PcAt w4.drew lo L.length L := HL2.out.1.below HB4.out.drew
      have hp2 : PnAt w4.drew L := HL2.out.2.1.below HB4.out.drew
      refine (apply_any w4.drew a0 N c0 xs hx H0N.out (by have := HN.out; omega) lo L.length lc L hp1 hp2 (by omega) none 0 0 [] ⟨rfl, fun h => absurd h (Nat.lt_irrefl 0)⟩ (by omega) (fun x hx => by cases hx)).mono ?_
      rintro e w' ⟨v, rfl, hown, hB5⟩
      rw [apply_see, kept_see, keptS_nil, HL2.out.2.2, apply_diff N xs ys HX.out.1 HY.out.1] at hown
      obtain ⟨vo, vc, rfl, hb, -⟩ := owns_BAt hown
      have hB5' : Below w.heap.size w w' := by
        have hd : Below w.heap.size w w4.drew := hB4.drew
        exact hd.trans (hB5.mono hd.size)
      exact ⟨vo, vc, rfl, Hid.mk (HY.out.below hB5'), Hid.mk hB5', Hid.mk hb⟩)
    clear hB4 HL2 HL3 HB2 HB4 H0N HX HY
    refine wp_region_held_drew (S := fun W => BAt W a1 N ys) (by kernel_rfl) hS (fun hH => ?_)
    refine takeH 0 30 (.slice a0 N c0) rfl (by kernel_rfl) (by kernel_rfl) (by kernel_rfl) (by kernel_rfl) (fun _ _ _ h => h) (by kernel_rfl) (fun w hw => by kernel_rfl) hH ?_
    simp only [List.setIfInBounds_toArray, List.set_cons_zero, List.set_cons_succ]
    refine takeH 1 31 (.int .i64 N) rfl (by kernel_rfl) (by kernel_rfl) (by kernel_rfl) (by kernel_rfl) (fun _ _ _ h => h) (by kernel_rfl) (fun w hw => by go_simp) hH ?_
    simp only [List.setIfInBounds_toArray, List.set_cons_zero, List.set_cons_succ]
    refine takeH 2 32 (.slice a1 N c1) rfl (by kernel_rfl) (by kernel_rfl) (by kernel_rfl) (by kernel_rfl) (fun _ _ _ h => h) (by kernel_rfl) (fun w hw => by kernel_rfl) hH ?_
    simp only [List.setIfInBounds_toArray, List.set_cons_zero, List.set_cons_succ]
    refine takeH 3 33 (.int .i64 N) rfl (by kernel_rfl) (by kernel_rfl) (by kernel_rfl) (by kernel_rfl) (fun _ _ _ h => h) (by kernel_rfl) (fun w hw => by go_simp) hH ?_
    simp only [List.setIfInBounds_toArray, List.set_cons_zero, List.set_cons_succ]
    refine takeH 4 34 (.bool false) rfl (by kernel_rfl) (by kernel_rfl) (by kernel_rfl) (by kernel_rfl) (fun _ _ _ h => h) (by kernel_rfl) (fun w hw => by go_simp) hH ?_
    simp only [List.setIfInBounds_toArray, List.set_cons_zero, List.set_cons_succ]
    refine takeH 5 35 (.bool false) rfl (by kernel_rfl) (by kernel_rfl) (by kernel_rfl) (by kernel_rfl) (fun _ _ _ h => h) (by kernel_rfl) (fun w hw => by kernel_rfl) hH ?_
    simp only [List.setIfInBounds_toArray, List.set_cons_zero, List.set_cons_succ]
    refine takeH 6 36 (.slice a0 N c0) rfl (by kernel_rfl) (by kernel_rfl) (by kernel_rfl) (by kernel_rfl) (fun _ _ _ h => h) (by kernel_rfl) (fun w hw => by kernel_rfl) hH ?_
    simp only [List.setIfInBounds_toArray, List.set_cons_zero, List.set_cons_succ]
    refine takeH 7 37 (.slice lo L.length lc) rfl (by kernel_rfl) (by kernel_rfl) (by kernel_rfl) (by kernel_rfl) (fun _ _ _ h => h) (by kernel_rfl) (fun w hw => by kernel_rfl) hH ?_
    simp only [List.setIfInBounds_toArray, List.set_cons_zero, List.set_cons_succ]
    refine takeH 10 40 (.slice a1 N c1) rfl (by kernel_rfl) (by kernel_rfl) (by kernel_rfl) (by kernel_rfl) (fun _ _ _ h => h) (by kernel_rfl) (fun w hw => by kernel_rfl) hH ?_
    simp only [List.setIfInBounds_toArray, List.set_cons_zero, List.set_cons_succ]
    refine takeH 11 41 (.string (strOfNums ys)) rfl (by kernel_rfl) (by kernel_rfl) (by kernel_rfl) (by kernel_rfl) (fun _ _ _ h => h) (by kernel_rfl) (fun w hw => by exact exec_convert (x := .tmp 40) (by kernel_rfl) (by kernel_rfl) (conv_bytes _ a1 N c1 ys hw)) hH ?_
    simp only [List.setIfInBounds_toArray, List.set_cons_zero, List.set_cons_succ]
    refine stepH_call 8 38 rfl (by kernel_rfl) (by kernel_rfl) (by kernel_rfl) 11 #[.tmp 36, .tmp 37, .const (.slice none 0 0)] #[22, 23, 24] (by kernel_rfl) (enters_of Try.func11 (by kernel_rfl) rfl) #[.slice a0 N c0, .slice lo L.length lc, .slice none 0 0] (by kernel_rfl) HAPP.out ?_
    rintro e w5 ⟨vo, vc, rfl, HS5, HB5, HROW⟩
    refine ⟨_, rfl, HS5.out, ?_⟩
    simp only [List.setIfInBounds_toArray, List.set_cons_zero, List.set_cons_succ]
    refine stepH_run 9 39 (.string (strOfNums ys)) w5 rfl (by kernel_rfl) (by kernel_rfl) (by kernel_rfl) (exec_convert (x := .tmp 38) (by kernel_rfl) (by kernel_rfl) (conv_bytes _ vo N vc ys HROW.out)) HS5.out ?_
    simp only [List.setIfInBounds_toArray, List.set_cons_zero, List.set_cons_succ]
    refine stepH_run 12 42 (.bool true) w5 rfl (by kernel_rfl) (by kernel_rfl) (by kernel_rfl) (exec_streql (u := 9) (s := strOfNums ys) (t := strOfNums ys) (x := .tmp 39) (y := .tmp 41) true (by simp) (by kernel_rfl) (by kernel_rfl) (by kernel_rfl)) HS5.out ?_
    simp only [List.setIfInBounds_toArray, List.set_cons_zero, List.set_cons_succ]
    refine takeH 13 43 (.bool true) rfl (by kernel_rfl) (by kernel_rfl) (by kernel_rfl) (by kernel_rfl) (fun _ _ _ h => h) (by kernel_rfl) (fun w hw => by kernel_rfl) HS5.out ?_
    simp only [List.setIfInBounds_toArray, List.set_cons_zero, List.set_cons_succ]
    refine takeH 14 4 (.bool true) rfl (by kernel_rfl) (by kernel_rfl) (by kernel_rfl) (by kernel_rfl) (fun _ _ _ h => h) (by kernel_rfl) (fun w hw => by kernel_rfl) HS5.out ?_
    simp only [List.setIfInBounds_toArray, List.set_cons_zero, List.set_cons_succ]
    refine wpAnyH_done (by kernel_rfl) ?_ _
    go_wp2
    go_ret
    exact ⟨rfl, HB5.out⟩
  · have HD := Hid.mk (fun W => diff_no W a0 a1 N M c0 c1 hNM)
    have HRD := Hid.mk (fun W => rdiff_no W a0 a1 N M c0 c1 hNM)
    have HSM := Hid.mk (fun W => same_any W none none 0 0 0 [] [] (pc_nil W) (pn_nil W) (pc_nil W) (pn_nil W) rfl (by omega))
    have q1 : ¬ (N : Int) = (M : Int) := by omega
    have q2 : ((N : Int) == (M : Int)) = false := by simp; omega
    have q3 : ((N : Int) != (M : Int)) = true := by simp; omega
    clear h0 h1 h1b h1c h0n g0 g1
    go_enter Try.func5, Try.ntmps5
    go_wp2_with (first
      | (go_at_call 9; refine HAL.out.mono ?_; rintro e w1 ⟨rfl, hb1⟩; have HB1 := Hid.mk hb1; clear hb1 HAL)
      | (go_at_call 17; refine (HD.out _).mono ?_; rintro e w2 ⟨rfl, hb2⟩; have HB2 : Hid (Below w.heap.size w w2) := Hid.mk (HB1.out.trans (hb2.mono HB1.out.size)); clear HD HB1 hb2)
      | (go_at_call 19; refine (HRD.out _).mono ?_; rintro e w3 ⟨rfl, hb3⟩; have HB3 : Hid (Below w.heap.size w w3) := Hid.mk (HB2.out.trans (hb3.mono HB2.out.size)); clear HRD HB2 hb3)
      | (go_at_call 18; refine (HSM.out _).mono ?_; rintro e w4 ⟨rfl, hb4⟩; have HB4 : Hid (Below w.heap.size w w4) := Hid.mk (HB3.out.trans (hb4.mono HB3.out.size)); clear HSM HB3 hb4))
    go_quiet (fail)
    go_wp2
    go_ret
    have hb := HB4.out
    exact ⟨rfl, ⟨hb.os, hb.tape, hb.output, hb.size, hb.block⟩⟩
end Go.Proofs.Ytjljklfahmjngaa
