/-
  isKind, wordsOf and inodeOf of the program.
-/
import Derived.Test.YteegopccpgbakaaDinIno
namespace Go.Proofs.Yteegopccpgbakaa
open Go Go.Proofs Go.RowKit Go.Shelf
namespace Din
def kindB (k : Int) : Bool := decide (k = 0 ∨ k = 1 ∨ k = 2)
theorem iskind_any (w : World) (k : Int) : Calls Try.prog 48 #[.int .i64 k] w fun e w' => e = .returned (.bool (kindB k)) ∧ w' = w := by
  by_cases h0 : k = 0
  · subst h0
    go_enter Try.func48, Try.ntmps48
    go_wp2
    go_ret
    exact ⟨rfl, rfl⟩
  · by_cases h1 : k = 1
    · subst h1
      go_enter Try.func48, Try.ntmps48
      go_wp2
      go_ret
      exact ⟨rfl, rfl⟩
    · by_cases h2 : k = 2
      · subst h2
        go_enter Try.func48, Try.ntmps48
        go_wp2
        go_ret
        exact ⟨rfl, rfl⟩
      · have e : kindB k = false := by simp [kindB, h0, h1, h2]
        have b0 : (k == 0) = false := by simp [h0]
        have b1 : (k == 1) = false := by simp [h1]
        have b2 : (k == 2) = false := by simp [h2]
        rw [e]
        go_enter Try.func48, Try.ntmps48
        go_wp2
        go_ret
        exact ⟨rfl, rfl⟩
/-- append onto a row of ints of one's own. -/
theorem appendi_run (W : World) (B : Nat) (v : Value) (n : Nat) (xs : List Int) (hown : W.ownsRow B 3 1 v n (Iy xs)) (hB : B ≤ W.heap.size) (a : Addr) (m c : Nat) (ys : List Int) (hy : LAt W (some a) m ys) (hn : n + m ≤ 16777216) :
    ∃ v' W', (Builtin.append_ #[66, 66] 66 #[v, .slice (some a) m c]).run Try.prog W = .ok v' W' ∧ W'.ownsRow B 3 1 v' (n + m) (Iy (xs ++ ys)) ∧ Below B W W' := by
  obtain ⟨i0, hi, hz0, hz1, hz2⟩ := info3p
  obtain ⟨v3, W3, hr, hown3, hg3, _⟩ := run_append_own (P := Try.prog) W B 66 66 3 i0 (.int .i64 0) 1 8 Try.underlying66 hi hz0 hz1 hz2 rfl (by decide) v n (Iy xs) hown a m c (Iy ys) (by rw [Iy_length, hy.1, Nat.mul_one]) (fun j u hj => by
    have hjl := (List.getElem?_eq_some_iff.1 hj).1
    rw [Iy_length] at hjl
    rw [Iy_get ys j hjl] at hj
    obtain ⟨a', e, hc⟩ := hy.at j (by rw [← hy.1]; exact hjl)
    cases e
    rw [hc]
    exact hj) (Iy_one _) (by unfold maxLen; omega) (by omega) hB
  have e : Iy xs ++ Iy ys = Iy (xs ++ ys) := by simp [Iy]
  rw [e] at hown3
  exact ⟨v3, W3, hr, hown3, (Below.refl _ W).grown hg3 hB (fun k hk => (hown.lt k hk).1)⟩
theorem owns_newi (W : World) (B : Nat) (xs : List Int) (hB : B ≤ W.heap.size) (hn : xs.length ≤ 16777216) : (W.alloc (.cells (Iy xs).toArray 3)).ownsRow B 3 1 (.slice (some ⟨W.heap.size, 0, none⟩) xs.length xs.length) xs.length (Iy xs) := by
  refine ⟨by rw [Iy_length, Nat.mul_one], .inr ⟨W.heap.size, xs.length, (Iy xs).toArray, rfl, hB, blk_new W _, Nat.le_refl _, by unfold maxLen; omega, by simp [Iy_length], ?_⟩⟩
  simp [List.take_of_length_le, Iy_length]
theorem lat_newi (W : World) (xs : List Int) : LAt (W.alloc (.cells (Iy xs).toArray 3)) (some ⟨W.heap.size, 0, none⟩) xs.length xs := QAt.lat (blk_new W _) rfl
theorem owns_LAt {w : World} {base : Nat} {v : Value} {n : Nat} {xs : List Int} (h : w.ownsRow base 3 1 v n (Iy xs)) (hn : 0 < n) : ∃ g c, v = .slice (some ⟨g, 0, none⟩) n c ∧ LAt w (some ⟨g, 0, none⟩) n xs ∧ base ≤ g := by
  obtain ⟨h1, h2⟩ := h
  rw [Iy_length, Nat.mul_one] at h1
  rcases h2 with ⟨rfl, rfl⟩ | ⟨g, cap, cur, rfl, hg, hh, hnc, hm, hsz, ht⟩
  · omega
  · refine ⟨g, cap, rfl, ⟨h1, fun _ => ⟨_, rfl, lt_of_block hh, fun i hi => ?_⟩⟩, hg⟩
    rw [add_at, blk_cell hh, Nat.zero_add]
    have e : cur.toList[i]? = (Iy xs)[i]? := by
      rw [← ht, List.getElem?_take, if_pos (by omega)]
    rw [← Array.getElem?_toList, e]
    exact Iy_get xs i (by omega)
theorem NAt.lat {b : Nat} {l : List Int} {W : World} (h : NAt b l W) (o n : Nat) (hn : o + n ≤ l.length) : LAt W (some ⟨b, o, none⟩) n ((l.drop o).take n) := by
  refine ⟨by simp; omega, fun _ => ⟨_, rfl, h.lt, fun i hi => ?_⟩⟩
  rw [add_at, h.cell (o + i) (by omega)]
  simp [List.getD, hi]
theorem exec_append {P : Program} {ev : Operand → Value} {oi : Oper} {s x : Operand} {t u : TypeId} {v vx v' : Value} {w w' : World} (ho : oi.op = .call { callee := .builtin .append, args := #[s, x], argTypes := #[t, u] }) (hs : ev s = v) (hx : ev x = vx) (hrun : (Builtin.append_ #[t, u] oi.type #[v, vx]).run P w = .ok v' w') : (execOp ev oi).run P w = .ok (.value v') w' := by
  unfold execOp
  simp only [ho, resolve, invoke, builtin, Sem.run_bind, Sem.run_pure, Result.andThen_ok, List.map_toArray, List.map_cons, List.map_nil, hs, hx, hrun]
theorem words_list (l : List Int) (hl : l.length = 13) : ([l.getD 2 0] ++ (l.drop 3).take 8) ++ [l.getD 11 0, l.getD 12 0] = l.drop 2 := by
  obtain ⟨a0, a1, a2, a3, a4, a5, a6, a7, a8, a9, a10, a11, a12, rfl⟩ := list13 l hl
  rfl
set_option maxRecDepth 100000 in
set_option maxHeartbeats 2000000 in
theorem words_any (w : World) (l : List Int) (hl : l.length = 13) : Calls Try.prog 47 #[inoV l] w fun e w' => ∃ v', e = .returned v' ∧ w'.ownsRow w.heap.size 3 1 v' 11 (Iy (l.drop 2)) ∧ Below w.heap.size w w' := by
  obtain ⟨W1, hW1⟩ : ∃ W1, W1 = w.alloc (.cells (Iy l).toArray 45) := ⟨_, rfl⟩
  have hB1 : Below w.heap.size w W1 := by rw [hW1]; exact (Below.refl _ w).alloc (Nat.le_refl _) _
  have hN1 : NAt w.heap.size l W1 := by rw [hW1]; exact NAt.new w l
  obtain ⟨b, hb⟩ : ∃ b, b = w.heap.size := ⟨_, rfl⟩
  rw [← hb] at hN1 hB1 ⊢
  -- the first append
  have hB2 : Below b W1.drew (W1.drew.alloc (.cells (Iy [l.getD 2 0]).toArray 3)) := (Below.refl _ W1.drew).alloc (Nat.le_of_lt hN1.lt) _
  have hN2 : NAt b l (W1.drew.alloc (.cells (Iy [l.getD 2 0]).toArray 3)) := NAt.below (W := W1.drew) hN1 ((Below.refl _ W1.drew).alloc (Nat.le_refl _) _) hN1.lt
  obtain ⟨v3, W3, hr3, ho3, hB3⟩ := appendi_run (W1.drew.alloc (.cells (Iy [l.getD 2 0]).toArray 3)) (b + 1) _ 1 [l.getD 2 0] (owns_newi W1.drew (b + 1) [l.getD 2 0] hN1.lt (by simp)) (by simp; have := hN1.lt; omega) ⟨b, 3, none⟩ 8 8 _ (hN2.lat 3 8 (by omega)) (by omega)
  have hN3 : NAt b l W3 := hN2.below hB3 (by omega)
  have hBw3 : Below b w W3 := (hB1.drew.trans hB2).trans (hB3.mono (by omega))
  -- the second one
  have hN4 : NAt b l (W3.alloc (.cells (Iy [l.getD 11 0, l.getD 12 0]).toArray 3)) := hN3.below ((Below.refl _ W3).alloc (Nat.le_refl _) _) hN3.lt
  obtain ⟨v5, W5, hr5, ho5, hB5⟩ := appendi_run (W3.alloc (.cells (Iy [l.getD 11 0, l.getD 12 0]).toArray 3)) (b + 1) v3 9 _ (ho3.alloc _) (by simp; have := hN3.lt; omega) ⟨W3.heap.size, 0, none⟩ 2 2 _ (lat_newi W3 [l.getD 11 0, l.getD 12 0]) (by omega)
  have hBw5 : Below b w W5 := (hBw3.alloc (Nat.le_of_lt hN3.lt) _).trans (hB5.mono (by omega))
  rw [words_list l hl] at ho5
  have ho5' := owns_base ho5 (show b ≤ b + 1 by omega)
  have HR3 := Hid.mk hr3
  have HR5 := Hid.mk hr5
  have HN1 := Hid.mk hN1
  have HN2 := Hid.mk hN2
  have HN3 := Hid.mk hN3
  have HO := Hid.mk ho5'
  have HB := Hid.mk hBw5
  have HW1 := Hid.mk hW1
  have HBE := Hid.mk hb
  have hc11 := hN3.cell 11 (by omega)
  have hc12 := hN3.cell 12 (by omega)
  have HS2 : Hid (∀ W', NAt b l W' → W'.cell? ⟨b, 2, none⟩ = some (.int .i64 (l.getD 2 0))) := Hid.mk (fun W' h => h.cell 2 (by omega))
  clear hr3 hr5 hN1 hN2 hN3 hN4 ho3 ho5 ho5' hBw3 hBw5 hB1 hB2 hB3 hB5 hW1 hb
  generalize l.getD 2 0 = s2 at *
  generalize l.getD 11 0 = s11 at *
  generalize l.getD 12 0 = s12 at *
  go_enter Try.func47, Try.ntmps47
  go_wp2_with (refine wpList_known rfl (.pointer (some ⟨b, 0, none⟩)) W1 (by rw [HW1.out, HBE.out]; exact exec_box24 (x := .tmp 0) rfl rfl) ?_)
  refine wp_region_held_drew (S := fun W' => W'.cell? ⟨b, 2, none⟩ = some (.int .i64 s2)) (by kernel_rfl) (HS2.out W1.drew HN1.out) (fun hH => ?_)
  change wpAnyH Try.prog Region.Mode.any _ _ _ 7 _ _ _
  refine takeH 0 4 (.pointer (some ⟨b, 2, none⟩)) rfl (by kernel_rfl) (by kernel_rfl) (by kernel_rfl) (by kernel_rfl) (fun _ _ _ h => h) (by kernel_rfl) (fun w hw => by (try dsimp only at hw); go_simp) hH ?_
  simp only [List.setIfInBounds_toArray, List.set_cons_zero, List.set_cons_succ]
  refine takeH 1 5 (.int .i64 s2) rfl (by kernel_rfl) (by kernel_rfl) (by kernel_rfl) (by kernel_rfl) (fun _ _ _ h => h) (by kernel_rfl) (fun w hw => by (try dsimp only at hw); go_simp) hH ?_
  simp only [List.setIfInBounds_toArray, List.set_cons_zero, List.set_cons_succ]
  refine takeH 3 7 (.pointer (some ⟨b, 3, none⟩)) rfl (by kernel_rfl) (by kernel_rfl) (by kernel_rfl) (by kernel_rfl) (fun _ _ _ h => h) (by kernel_rfl) (fun w hw => by (try dsimp only at hw); go_simp) hH ?_
  simp only [List.setIfInBounds_toArray, List.set_cons_zero, List.set_cons_succ]
  refine takeH 4 8 (.slice (some ⟨b, 3, none⟩) 8 8) rfl (by kernel_rfl) (by kernel_rfl) (by kernel_rfl) (by kernel_rfl) (fun _ _ _ h => h) (by kernel_rfl) (fun w hw => by (try dsimp only at hw); go_simp) hH ?_
  simp only [List.setIfInBounds_toArray, List.set_cons_zero, List.set_cons_succ]
  have hH2 := HS2.out _ HN2.out
  refine stepH_run 2 6 (.slice (some ⟨W1.drew.heap.size, 0, none⟩) 1 1) (W1.drew.alloc (.cells (Iy [s2]).toArray 3)) rfl (by kernel_rfl) (by kernel_rfl) (by kernel_rfl) (by kernel_rfl) hH2 ?_
  simp only [List.setIfInBounds_toArray, List.set_cons_zero, List.set_cons_succ]
  have hH3 := HS2.out _ HN3.out
  refine stepH_run 5 9 v3 W3 rfl (by kernel_rfl) (by kernel_rfl) (by kernel_rfl) (exec_append (s := .tmp 6) (x := .tmp 8) rfl (by kernel_rfl) (by kernel_rfl) HR3.out) hH3 ?_
  simp only [List.setIfInBounds_toArray, List.set_cons_zero, List.set_cons_succ]
  refine takeH 6 3 (v3) rfl (by kernel_rfl) (by kernel_rfl) (by kernel_rfl) (by kernel_rfl) (fun _ _ _ h => h) (by kernel_rfl) (fun w hw => by kernel_rfl) hH3 ?_
  simp only [List.setIfInBounds_toArray, List.set_cons_zero, List.set_cons_succ]
  refine wpAnyH_done (by kernel_rfl) ?_ _
  clear hH hH2 hH3 HS2 HR3 HN1 HN2
  go_wp2_with (at_builtin; refine wpList_append_known rfl (.tmp 10) (.tmp 15) 66 rfl v3 (.slice (some ⟨W3.heap.size, 0, none⟩) 2 2) _ _ rfl rfl HR5.out ?_)
  go_ret
  exact ⟨_, rfl, HO.out, HB.out⟩
end Din
end Go.Proofs.Yteegopccpgbakaa
