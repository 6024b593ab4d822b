/-
  The reference's copied.
-/
import Derived.Test.YtbahbhaoimabdaaWkRen
namespace Go.Proofs.Ytbahbhaoimabdaa
open Go Go.Proofs Go.RowKit Go.Shelf

/-- append([]api.Entry(nil), slots...). -/
theorem appE_run (W : World) (so : Option Addr) (n c : Nat) (E : Nat → EnV) (hE : EnAt W so n E) (hn : n ≤ 16777216) :
    ∃ v' W', (Builtin.append_ #[37, 37] 37 #[.slice none 0 0, .slice so n c]).run Try.prog W = .ok v' W' ∧ W'.ownsRow W.heap.size 41 2 v' n (Ey n E) ∧ Below W.heap.size W W' := by
  obtain ⟨i0, hi, hz0, hz1, hz2⟩ := info_parts info_clonE
  cases so with
  | none =>
    obtain rfl : n = 0 := by
      rcases Nat.eq_zero_or_pos n with h | h
      · exact h
      · obtain ⟨b, o, e, -⟩ := hE h; cases e
    exact ⟨.slice none 0 0, W, by kernel_rfl, World.ownsRow_nil _ _ _ _, Below.refl _ _⟩
  | some a =>
    obtain ⟨v3, W3, hr, hown3, hg3, _, hat⟩ := run_append_own_at (P := Try.prog) W W.heap.size 37 37 41 i0 (.agg #[.int .i64 0, .string ⟨#[]⟩]) 2 24 Try.underlying37 hi hz0 hz1 hz2 rfl (by decide) (.slice none 0 0) 0 [] (World.ownsRow_nil _ _ _ _) a n c (Ey n E) (flat2_length n) (hE.cells rfl) (Ey_one n E) (by unfold maxLen; omega) (by omega) (Nat.le_refl _)
    rw [Nat.zero_add] at hown3
    exact ⟨v3, W3, hr, hown3, (Below.refl _ W).grown hg3 (Nat.le_refl _) (fun k hk => by cases hk)⟩
/-- append([]byte(nil), data...). -/
theorem appB_run (W : World) (ao : Option Addr) (n c : Nat) (xs : List Int) (hB : BAt W ao n xs) (hno : ao = none → n = 0) (hn : n ≤ 16777216) :
    ∃ v' W', (Builtin.append_ #[42, 42] 42 #[.slice none 0 0, .slice ao n c]).run Try.prog W = .ok v' W' ∧ W'.ownsRow W.heap.size 5 1 v' n (By xs) ∧ Below W.heap.size W W' := by
  obtain ⟨i0, hi, hz0, hz1, hz2⟩ := info_parts info_clonB
  have hl : (By xs).length = n * 1 := by rw [By_length, hB.1, Nat.mul_one]
  cases ao with
  | none =>
    obtain rfl := hno rfl
    obtain rfl : xs = [] := List.eq_nil_of_length_eq_zero hB.1
    exact ⟨.slice none 0 0, W, by kernel_rfl, World.ownsRow_nil _ _ _ _, Below.refl _ _⟩
  | some a =>
    obtain ⟨v3, W3, hr, hown3, hg3, _, hat⟩ := run_append_own_at (P := Try.prog) W W.heap.size 42 42 5 i0 (.int .u8 0) 1 1 Try.underlying42 hi hz0 hz1 hz2 rfl (by decide) (.slice none 0 0) 0 [] (World.ownsRow_nil _ _ _ _) a n c (By xs) hl (fun j u hj => by
      have hjn : j < n := by
        have := (List.getElem?_eq_some_iff.1 hj).1
        omega
      obtain ⟨a', e, hc⟩ := hB.at j hjn
      cases e
      rw [By_get xs j (by rw [hB.1]; exact hjn)] at hj
      rw [hc]
      exact hj) (By_one xs) (by unfold maxLen; omega) (by omega) (Nat.le_refl _)
    rw [Nat.zero_add] at hown3
    exact ⟨v3, W3, hr, hown3, (Below.refl _ W).grown hg3 (Nat.le_refl _) (fun k hk => by cases hk)⟩
/-- A part as cells, and rows of parts. -/
def paC (p : PaV) : List Value := [.int .i64 p.at', .slice p.ao p.m p.cc]
theorem Qy_next (n : Nat) (P : Nat → PaV) (p : PaV) : Qy n P ++ paC p = Qy (n + 1) (fun k => if k = n then p else P k) := by
  unfold Qy
  rw [List.range_succ, List.flatMap_append]
  congr 1
  · refine flat2_ext (f := fun k => Value.int .i64 ((if k = n then p else P k : PaV)).at') (g := fun k => Value.slice ((if k = n then p else P k : PaV)).ao ((if k = n then p else P k : PaV)).m ((if k = n then p else P k : PaV)).cc) (by rw [flat2_length]) (fun k hk => ?_)
    have h := flat2_get (f := fun k => Value.int .i64 (P k).at') (g := fun k => Value.slice (P k).ao (P k).m (P k).cc) n k hk
    simp only [if_neg (show k ≠ n by omega)]
    exact h
  · simp [paC]
theorem exec_oneP {ev : Operand → Value} {oi : Oper} {x : Operand} {p : PaV} {W : World} (ho : oi.op = .buildSlice 36 1 #[(0, x)]) (hx : ev x = .agg #[.int .i64 p.at', .slice p.ao p.m p.cc]) : (execOp ev oi).run Try.prog W = .ok (.value (.slice (some ⟨W.heap.size, 0, none⟩) 1 1)) (W.alloc (.cells (paC p).toArray 44)) := by
  obtain ⟨i0, hi, hz0, hz1, hz2⟩ := info_parts info_clonP
  unfold execOp
  rw [ho]
  simp only [hx, List.map_toArray, List.map_cons, List.map_nil]
  simp [Instr.buildSlice, run_underlying Try.underlying36, zeroValue, typeInfo, hi, hz0, hz1, newRow, paC, Value.cells, Instr.fill, sizeOf]
  rw [show Array.range 2 = #[0, 1] from by decide]
  simp
theorem appendP_run (W : World) (B : Nat) (v : Value) (n : Nat) (P : Nat → PaV) (p : PaV) (hown : W.ownsRow B 44 2 v n (Qy n P)) (hB : B ≤ W.heap.size) (hn : n ≤ 16777216) :
    ∃ v' W', (Builtin.append_ #[36, 36] 36 #[v, .slice (some ⟨W.heap.size, 0, none⟩) 1 1]).run Try.prog (W.alloc (.cells (paC p).toArray 44)) = .ok v' W' ∧ W'.ownsRow B 44 2 v' (n + 1) (Qy (n + 1) (fun k => if k = n then p else P k)) ∧ (W.alloc (.cells (paC p).toArray 44)).grownBy W' v.ownBlock := by
  obtain ⟨i0, hi, hz0, hz1, hz2⟩ := info_parts info_clonP
  have hnew := blk_new W (.cells (paC p).toArray 44)
  obtain ⟨v3, W3, hr, hown3, hg3, _, hat⟩ := run_append_own_at (P := Try.prog) (W.alloc (.cells (paC p).toArray 44)) B 36 36 44 i0 (.agg #[.int .i64 0, .slice none 0 0]) 2 32 Try.underlying36 hi hz0 hz1 hz2 rfl (by decide) v n (Qy n P) (hown.alloc _) ⟨W.heap.size, 0, none⟩ 1 1 (paC p) rfl (fun j u hj => by
    match j, hj with
    | 0, hj => cases hj; rw [add_at, blk_cell hnew]; rfl
    | 1, hj => cases hj; rw [add_at, blk_cell hnew]; rfl) (by intro u hu; simp [paC] at hu; rcases hu with rfl | rfl <;> rfl) (by unfold maxLen; omega) (by omega) (by simp; omega)
  rw [Qy_next] at hown3
  exact ⟨v3, W3, hr, hown3, hg3⟩
theorem exec_append {P : Program} {ev : Operand → Value} {oi : Oper} {s x : Operand} {t u : TypeId} {v vx v' : Value} {w w' : World} (ho : oi.op = .call { callee := .builtin .append, args := #[s, x], argTypes := #[t, u] }) (hs : ev s = v) (hx : ev x = vx) (hrun : (Builtin.append_ #[t, u] oi.type #[v, vx]).run P w = .ok v' w') : (execOp ev oi).run P w = .ok (.value v') w' := by
  unfold execOp
  simp only [ho, resolve, invoke, builtin, Sem.run_bind, Sem.run_pure, Result.andThen_ok, List.map_toArray, List.map_cons, List.map_nil, hs, hx, hrun]
theorem results_no {f : Func} {tmps : Array Value} {a b : Nat} {y : NoV} {W : World} (hf : f.results = #[.cell a 39]) (ht : tmps.getD a undef = .pointer (some ⟨b, 0, none⟩)) (hN : W.heap[b]? = some (.cells (noC y).toArray 39 (0, 0))) : (results f tmps).run Try.prog W = .ok y.val W := by
  have c0 := blk_cell hN 0
  have c1 := blk_cell hN 1
  have c2 := blk_cell hN 2
  have c3 := blk_cell hN 3
  have c4 := blk_cell hN 4
  have c5 := blk_cell hN 5
  simp [noC] at c0 c1 c2 c3 c4 c5
  have ht2 : tmps[a]?.getD undef = .pointer (some ⟨b, 0, none⟩) := by rw [← ht]; simp
  unfold results NoV.val
  rw [hf]
  go_simp
/-- Between two blocks. -/
structure RcI (w : World) (x : NoV) (so1 : Option Addr) (sc1 : Nat) (P' : Nat → PaV) (bv : Value) (i : Nat) (W : World) : Prop where
  row : W.ownsRow w.heap.size 44 2 bv i (Qy i P')
  data : ∀ k, k < i → W.ownsRow w.heap.size 5 1 (daV (P' k)) (P' k).m (By (P' k).xs)
  same : ∀ k, k < i → (P' k).at' = (x.P k).at' ∧ (P' k).m = (x.P k).m ∧ (P' k).xs = (x.P k).xs
  slots : W.ownsRow w.heap.size 41 2 (.slice so1 x.sn sc1) x.sn (Ey x.sn x.E)
  box : W.heap[w.heap.size]? = some (.cells #[.int .i64 x.ino, .int .i64 x.kind, .int .i64 x.links, .int .i64 x.size, .slice x.bo x.bn x.bc, .slice so1 x.sn sc1] 39 (0, 0))
  res : W.heap[w.heap.size + 1]? = some (.cells #[.int .i64 0, .int .i64 0, .int .i64 0, .int .i64 0, .slice none 0 0, .slice none 0 0] 39 (0, 0))
  below : Below w.heap.size w W
theorem RcI.blw {w : World} {x : NoV} {so1 : Option Addr} {sc1 : Nat} {P' : Nat → PaV} {bv : Value} {i : Nat} {W W' : World} (h : RcI w x so1 sc1 P' bv i W) (hB : Below W.heap.size W W') : RcI w x so1 sc1 P' bv i W' := by
  have hk : ∀ {e : TypeId} {size n : Nat} {v : Value} {xs : List Value}, W.ownsRow w.heap.size e size v n xs → W'.ownsRow w.heap.size e size v n xs := fun ho => owns_at ho (fun g e => hB.block g (owns_kind ho g e).2.1)
  exact ⟨hk h.row, fun k hk' => hk (h.data k hk'), h.same, hk h.slots, (hB.block _ (lt_of_block h.box)).trans h.box, (hB.block _ (lt_of_block h.res)).trans h.res, h.below.trans (hB.mono h.below.size)⟩
/-- One more block. -/
theorem RcI.part {w : World} {x : NoV} {so1 : Option Addr} {sc1 : Nat} {P' : Nat → PaV} {bv bv' : Value} {i : Nat} {W W' : World} (h : RcI w x so1 sc1 P' bv i W) {p : PaV} (hd : W.ownsRow w.heap.size 5 1 (daV p) p.m (By p.xs)) (hs : p.at' = (x.P i).at' ∧ p.m = (x.P i).m ∧ p.xs = (x.P i).xs)
    (hr : W'.ownsRow w.heap.size 44 2 bv' (i + 1) (Qy (i + 1) (fun k => if k = i then p else P' k))) (hg : W.grownBy W' bv.ownBlock) : RcI w x so1 sc1 (fun k => if k = i then p else P' k) bv' (i + 1) W' := by
  have hb : ∀ {g : Nat} {cs} {t : TypeId}, W.heap[g]? = some (.cells cs t (0, 0)) → t ≠ 44 → W'.heap[g]? = W.heap[g]? := fun {g cs t} h1 ht => hg.block g (lt_of_block h1) (fun e => by
    obtain ⟨-, -, cs2, h2⟩ := owns_kind h.row g e.symm
    exact ty_ne h2 h1 (fun e => ht e.symm) rfl)
  have hk : ∀ {e : TypeId} {size n : Nat} {v : Value} {xs : List Value}, e ≠ 44 → W.ownsRow w.heap.size e size v n xs → W'.ownsRow w.heap.size e size v n xs := fun ht ho => owns_at ho (fun g e => by
    obtain ⟨-, -, cs2, h2⟩ := owns_kind ho g e
    exact hb h2 ht)
  refine ⟨hr, fun k hk' => ?_, fun k hk' => ?_, hk (by decide) h.slots, (hb h.box (by decide)).trans h.box, (hb h.res (by decide)).trans h.res, h.below.grown hg (h.below.size) (fun k e => (owns_kind h.row k e).1)⟩
  · by_cases e : k = i
    · subst e; simp only; exact hk (by decide) hd
    · simp only [if_neg e]; exact hk (by decide) (h.data k (by omega))
  · by_cases e : k = i
    · subst e; simp only; exact hs
    · simp only [if_neg e]; exact h.same k (by omega)
set_option maxRecDepth 100000 in
set_option maxHeartbeats 4000000 in
theorem rcopied_any (w : World) (x : NoV) (hP : PaAt w x.bo x.bn x.P) (hE : EnAt w x.so x.sn x.E) (hsn : x.sn ≤ 16777216) (hbn : x.bn ≤ 16777216) (hms : ∀ k, k < x.bn → (x.P k).m ≤ 16777216) :
    Calls Try.prog 29 #[x.val] w fun e w' => ∃ y, e = .returned y.val ∧ SameV y x ∧ OwN w' w.heap.size y.bn y ∧ Below w.heap.size w w' := by
  have HP := Hid.mk hP
  have HE := Hid.mk hE
  have HZ := Hid.mk (And.intro hsn (And.intro hbn hms))
  clear hP hE hsn hbn hms
  unfold NoV.val
  go_enter Try.func29, Try.ntmps29
  go_upto_region 1 with fail
  obtain ⟨W1, hW1⟩ : ∃ W1, W1 = (w.alloc (.cells #[.int .i64 x.ino, .int .i64 x.kind, .int .i64 x.links, .int .i64 x.size, .slice x.bo x.bn x.bc, .slice x.so x.sn x.sc] 39)).alloc (.cells #[.int .i64 0, .int .i64 0, .int .i64 0, .int .i64 0, .slice none 0 0, .slice none 0 0] 39) := ⟨_, rfl⟩
  have hB1 : Below w.heap.size w W1 := by rw [hW1]; exact ((Below.refl _ w).alloc (Nat.le_refl _) _).alloc (by simp) _
  have g1 : W1.heap[w.heap.size]? = some (.cells #[.int .i64 x.ino, .int .i64 x.kind, .int .i64 x.links, .int .i64 x.size, .slice x.bo x.bn x.bc, .slice x.so x.sn x.sc] 39 (0, 0)) := by rw [hW1]; exact two_old w _ _
  have g2 : W1.heap[w.heap.size + 1]? = some (.cells #[.int .i64 0, .int .i64 0, .int .i64 0, .int .i64 0, .slice none 0 0, .slice none 0 0] 39 (0, 0)) := by rw [hW1]; exact two_new w _ _
  obtain ⟨v1, W2, hap, hv1, hB2⟩ := appE_run W1 x.so x.sn x.sc x.E (HE.out.blw hB1) HZ.out.1
  obtain ⟨so1, sc1, rfl, -, -⟩ := owns_val hv1
  have g1' := (hB2.block _ (lt_of_block g1)).trans g1
  have g2' := (hB2.block _ (lt_of_block g2)).trans g2
  have c5 := blk_cell g1 5
  have u5 := blk_cell g1' 5
  simp at c5 u5
  have f5 : W2.frozen? ⟨w.heap.size, 5, none⟩ = false := by simp [World.frozen?, g1']
  have HI0 : Hid (RcI w x so1 sc1 x.P (.slice none 0 0) 0 (W2.setCell ⟨w.heap.size, 5, none⟩ (.slice so1 x.sn sc1))) := Hid.mk (by
    refine ⟨World.ownsRow_nil _ _ _ _, fun k hk => absurd hk (Nat.not_lt_zero k), fun k hk => absurd hk (Nat.not_lt_zero k), ?_, ?_, (Below.heap_setCell _ _ _ _ (by simp)).trans g2', (hB1.trans (hB2.mono hB1.size)).setCell (Nat.le_refl _) _⟩
    · refine owns_base (owns_at hv1 (fun g e => Below.heap_setCell _ _ _ _ ?_)) hB1.size
      have := (owns_kind hv1 g e).1
      have := lt_of_block g1
      show g ≠ w.heap.size
      omega
    · exact blk_set g1')
  have HAP := Hid.mk hap
  rw [← hW1]
  clear hW1 hB1 g1 g2 hap hv1 hB2 g1' g2'
  go_wp2_with (at_builtin; refine wpList_append_known rfl _ _ _ rfl _ _ _ _ rfl rfl HAP.out ?_; simp only [Act.put, List.setIfInBounds_toArray, List.set_cons_zero, List.set_cons_succ])
  generalize W2.setCell ⟨w.heap.size, 5, none⟩ (.slice so1 x.sn sc1) = W3 at *
  clear c5 u5 f5 HAP
  go_loopw [3, 4] (fun bv iv wr => ∃ (i : Nat) (ba : Option Addr) (bc : Nat) (P' : Nat → PaV), bv = .slice ba i bc ∧ i ≤ x.bn ∧ iv = .int .i64 (i : Int) ∧ Hid (RcI w x so1 sc1 P' bv i wr)) (fun _ iv _ => ((x.bn : Int) - Go.RowKit.intOf iv).toNat)
  case atStart => exact ⟨0, _, _, _, rfl, by omega, rfl, HI0⟩
  case round =>
    obtain ⟨i, ba, bc, P', rfl, hib, rfl, HK⟩ := hrel
    have b4 := blk_cell HK.out.box 4
    simp at b4
    by_cases hlt : i < x.bn
    · obtain ⟨pg, po, hpe, hpl, hpc⟩ := HP.out (by omega)
      obtain ⟨⟨z0, z1⟩, hda, hdw⟩ := hpc i hlt
      have hWP : ∀ A, Below w.heap.size w A → A.cell? ⟨pg, po + i * 2, none⟩ = some (.int .i64 (x.P i).at') ∧ A.cell? ⟨pg, po + i * 2 + 1, none⟩ = some (.slice (x.P i).ao (x.P i).m (x.P i).cc) := fun A hA => ⟨(World.cell?_of_block (hA.block pg hpl)).trans z0, (World.cell?_of_block (hA.block pg hpl)).trans z1⟩
      rw [hpe] at b4
      have HSS : Hid (∀ A, Below wr.drew.heap.size wr.drew A → A.cell? ⟨w.heap.size, 4, none⟩ = some (.slice (some ⟨pg, po, none⟩) x.bn x.bc) ∧ A.cell? ⟨pg, po + i * 2, none⟩ = some (.int .i64 (x.P i).at') ∧ A.cell? ⟨pg, po + i * 2 + 1, none⟩ = some (.slice (x.P i).ao (x.P i).m (x.P i).cc)) := Hid.mk (fun A hA => by
        have h1 := (hA.block w.heap.size (lt_of_block HK.out.box)).trans HK.out.box
        have h2 := blk_cell h1 4
        simp at h2
        rw [hpe] at h2
        exact ⟨h2, hWP A ((HK.out.below.drew).trans (hA.mono HK.out.below.size))⟩)
      obtain ⟨v4, W4, hab, hv4, hB4⟩ := appB_run wr.drew (x.P i).ao (x.P i).m (x.P i).cc (x.P i).xs (hda.only (Only.of_new (fun _ => False) (HK.out.below.drew)) (fun _ _ _ h => h)) (fun e => (hdw.2.2.1 e).1) (HZ.out.2.2 i hlt)
      obtain ⟨da, dc, rfl, -, -⟩ := owns_val hv4
      have hK4 := (HK.out.blw (Below.refl wr.heap.size wr).drew).blw hB4
      obtain ⟨v6, W6, haq, hv6, hg6⟩ := appendP_run W4 w.heap.size (.slice ba i bc) i P' ⟨(x.P i).at', da, (x.P i).m, dc, (x.P i).xs⟩ hK4.row hK4.below.size (by have := HZ.out.2.1; omega)
      obtain ⟨ba2, bc2, rfl, -, -⟩ := owns_val hv6
      have hB5 : Below W4.heap.size W4 (W4.alloc (.cells (paC ⟨(x.P i).at', da, (x.P i).m, dc, (x.P i).xs⟩).toArray 44)) := (Below.refl _ W4).alloc (Nat.le_refl _) _
      have hI6 := (hK4.blw hB5).part (p := ⟨(x.P i).at', da, (x.P i).m, dc, (x.P i).xs⟩) (owns_at (owns_base hv4 HK.out.below.size) (fun g e => hB5.block g (owns_kind hv4 g e).2.1)) ⟨rfl, rfl, rfl⟩ hv6 hg6
      have HB4 := Hid.mk hB4
      have HB5 := Hid.mk (hB4.trans (hB5.mono hB4.size))
      have HS6 : Hid (W6.cell? ⟨w.heap.size, 4, none⟩ = some (.slice (some ⟨pg, po, none⟩) x.bn x.bc) ∧ W6.cell? ⟨pg, po + i * 2, none⟩ = some (.int .i64 (x.P i).at') ∧ W6.cell? ⟨pg, po + i * 2 + 1, none⟩ = some (.slice (x.P i).ao (x.P i).m (x.P i).cc)) := Hid.mk (by
        have h2 := blk_cell hI6.box 4
        simp at h2
        rw [hpe] at h2
        exact ⟨h2, hWP W6 hI6.below⟩)
      have HI6 := Hid.mk hI6
      have HAB := Hid.mk hab
      have HAQ := Hid.mk haq
      have hi0 : (0 : Int) ≤ (i : Int) := by omega
      have hib2 : (i : Int) < (x.bn : Int) := by omega
      have hii : IntKind.i64.wrap ((i : Int) + 1) = (i : Int) + 1 := by have := HZ.out.2.1; rw [IntKind.wrap_i64]; omega
      rw [hpe]
      clear hpe hpl hpc z0 z1 hda hdw hWP hab hv4 hB4 hK4 haq hv6 hg6 hB5 hI6
      go_upto_region 6 with fail
      refine wp_region_held_drew (S := fun A => A.cell? ⟨w.heap.size, 4, none⟩ = some (.slice (some ⟨pg, po, none⟩) x.bn x.bc) ∧ A.cell? ⟨pg, po + i * 2, none⟩ = some (.int .i64 (x.P i).at') ∧ A.cell? ⟨pg, po + i * 2 + 1, none⟩ = some (.slice (x.P i).ao (x.P i).m (x.P i).cc)) (by kernel_rfl) (HSS.out _ (Below.refl _ _)) (fun hH => ?_)
      change wpAnyH Try.prog Region.Mode.any _ _ _ 18 _ _ _
      refine takeH 0 16 (.slice ba i bc) rfl (by kernel_rfl) (by kernel_rfl) (by kernel_rfl) (by kernel_rfl) (fun _ _ _ h => h) (by kernel_rfl) (fun w hw => by (try dsimp only at hw); go_simp) hH ?_
      simp only [List.setIfInBounds_toArray, List.set_cons_zero, List.set_cons_succ]
      refine takeH 1 17 (.pointer (some ⟨w.heap.size, 4, none⟩)) rfl (by kernel_rfl) (by kernel_rfl) (by kernel_rfl) (by kernel_rfl) (fun _ _ _ h => h) (by kernel_rfl) (fun w hw => by (try dsimp only at hw); go_simp) hH ?_
      simp only [List.setIfInBounds_toArray, List.set_cons_zero, List.set_cons_succ]
      refine takeH 2 18 (.slice (some ⟨pg, po, none⟩) x.bn x.bc) rfl (by kernel_rfl) (by kernel_rfl) (by kernel_rfl) (by kernel_rfl) (fun _ _ _ h => h) (by kernel_rfl) (fun w hw => by (try dsimp only at hw); go_simp) hH ?_
      simp only [List.setIfInBounds_toArray, List.set_cons_zero, List.set_cons_succ]
      refine takeH 3 19 (.int .i64 (i : Nat)) rfl (by kernel_rfl) (by kernel_rfl) (by kernel_rfl) (by kernel_rfl) (fun _ _ _ h => h) (by kernel_rfl) (fun w hw => by (try dsimp only at hw); go_simp) hH ?_
      simp only [List.setIfInBounds_toArray, List.set_cons_zero, List.set_cons_succ]
      refine takeH 4 20 (.pointer (some ⟨pg, po + i * 2, none⟩)) rfl (by kernel_rfl) (by kernel_rfl) (by kernel_rfl) (by kernel_rfl) (fun _ _ _ h => h) (by kernel_rfl) (fun w hw => by (try dsimp only at hw); go_simp) hH ?_
      simp only [List.setIfInBounds_toArray, List.set_cons_zero, List.set_cons_succ]
      refine takeH 5 21 (.pointer (some ⟨pg, po + i * 2, none⟩)) rfl (by kernel_rfl) (by kernel_rfl) (by kernel_rfl) (by kernel_rfl) (fun _ _ _ h => h) (by kernel_rfl) (fun w hw => by (try dsimp only at hw); go_simp) hH ?_
      simp only [List.setIfInBounds_toArray, List.set_cons_zero, List.set_cons_succ]
      refine takeH 6 22 (.int .i64 (x.P i).at') rfl (by kernel_rfl) (by kernel_rfl) (by kernel_rfl) (by kernel_rfl) (fun _ _ _ h => h) (by kernel_rfl) (fun w hw => by (try dsimp only at hw); go_simp) hH ?_
      simp only [List.setIfInBounds_toArray, List.set_cons_zero, List.set_cons_succ]
      refine takeH 7 23 (.pointer (some ⟨w.heap.size, 4, none⟩)) rfl (by kernel_rfl) (by kernel_rfl) (by kernel_rfl) (by kernel_rfl) (fun _ _ _ h => h) (by kernel_rfl) (fun w hw => by (try dsimp only at hw); go_simp) hH ?_
      simp only [List.setIfInBounds_toArray, List.set_cons_zero, List.set_cons_succ]
      refine takeH 8 24 (.slice (some ⟨pg, po, none⟩) x.bn x.bc) rfl (by kernel_rfl) (by kernel_rfl) (by kernel_rfl) (by kernel_rfl) (fun _ _ _ h => h) (by kernel_rfl) (fun w hw => by (try dsimp only at hw); go_simp) hH ?_
      simp only [List.setIfInBounds_toArray, List.set_cons_zero, List.set_cons_succ]
      refine takeH 9 25 (.int .i64 (i : Nat)) rfl (by kernel_rfl) (by kernel_rfl) (by kernel_rfl) (by kernel_rfl) (fun _ _ _ h => h) (by kernel_rfl) (fun w hw => by (try dsimp only at hw); go_simp) hH ?_
      simp only [List.setIfInBounds_toArray, List.set_cons_zero, List.set_cons_succ]
      refine takeH 10 26 (.pointer (some ⟨pg, po + i * 2, none⟩)) rfl (by kernel_rfl) (by kernel_rfl) (by kernel_rfl) (by kernel_rfl) (fun _ _ _ h => h) (by kernel_rfl) (fun w hw => by (try dsimp only at hw); go_simp) hH ?_
      simp only [List.setIfInBounds_toArray, List.set_cons_zero, List.set_cons_succ]
      refine takeH 11 27 (.pointer (some ⟨pg, po + i * 2 + 1, none⟩)) rfl (by kernel_rfl) (by kernel_rfl) (by kernel_rfl) (by kernel_rfl) (fun _ _ _ h => h) (by kernel_rfl) (fun w hw => by (try dsimp only at hw); go_simp) hH ?_
      simp only [List.setIfInBounds_toArray, List.set_cons_zero, List.set_cons_succ]
      refine takeH 12 28 (.slice (x.P i).ao (x.P i).m (x.P i).cc) rfl (by kernel_rfl) (by kernel_rfl) (by kernel_rfl) (by kernel_rfl) (fun _ _ _ h => h) (by kernel_rfl) (fun w hw => by (try dsimp only at hw); go_simp) hH ?_
      simp only [List.setIfInBounds_toArray, List.set_cons_zero, List.set_cons_succ]
      refine stepH_run 13 29 (.slice da (x.P i).m dc) W4 rfl (by kernel_rfl) (by kernel_rfl) (by kernel_rfl) (exec_append (s := .const (.slice none 0 0)) (x := .tmp 28) (by kernel_rfl) (by kernel_rfl) (by kernel_rfl) HAB.out) (HSS.out _ HB4.out) ?_
      simp only [List.setIfInBounds_toArray, List.set_cons_zero, List.set_cons_succ]
      refine stepH 14 30 (.agg #[.int .i64 (x.P i).at', .slice da (x.P i).m dc]) rfl (by kernel_rfl) (by kernel_rfl) (by kernel_rfl) (by go_simp) (HSS.out _ HB4.out) ?_
      simp only [List.setIfInBounds_toArray, List.set_cons_zero, List.set_cons_succ]
      refine stepH_run 15 31 (.slice (some ⟨W4.heap.size, 0, none⟩) 1 1) (W4.alloc (.cells (paC ⟨(x.P i).at', da, (x.P i).m, dc, (x.P i).xs⟩).toArray 44)) rfl (by kernel_rfl) (by kernel_rfl) (by kernel_rfl) (exec_oneP (p := ⟨(x.P i).at', da, (x.P i).m, dc, (x.P i).xs⟩) (x := .tmp 30) (by kernel_rfl) (by kernel_rfl)) (HSS.out _ HB5.out) ?_
      simp only [List.setIfInBounds_toArray, List.set_cons_zero, List.set_cons_succ]
      refine stepH_run 16 32 (.slice ba2 (i + 1) bc2) W6 rfl (by kernel_rfl) (by kernel_rfl) (by kernel_rfl) (exec_append (s := .tmp 16) (x := .tmp 31) (by kernel_rfl) (by kernel_rfl) (by kernel_rfl) HAQ.out) HS6.out ?_
      simp only [List.setIfInBounds_toArray, List.set_cons_zero, List.set_cons_succ]
      refine stepH 17 3 (.slice ba2 (i + 1) bc2) rfl (by kernel_rfl) (by kernel_rfl) (by kernel_rfl) (by go_simp) HS6.out ?_
      simp only [List.setIfInBounds_toArray, List.set_cons_zero, List.set_cons_succ]
      refine wpAnyH_done (by kernel_rfl) ?_ _
      go_wp2
      go_roundw
      case rel => exact ⟨i + 1, ba2, bc2, _, rfl, hlt, by push_cast; rfl, HI6⟩
      case measure => simp [Go.RowKit.intOf]; omega
    · obtain rfl : i = x.bn := by omega
      have hbx := HK.out.box
      have hrs := HK.out.res
      have b0 := blk_cell hbx 0
      have b1 := blk_cell hbx 1
      have b2 := blk_cell hbx 2
      have b3 := blk_cell hbx 3
      have b5 := blk_cell hbx 5
      simp at b0 b1 b2 b3 b5
      have f4 : wr.frozen? ⟨w.heap.size, 4, none⟩ = false := by simp [World.frozen?, hbx]
      have r0 := blk_cell hrs 0
      have r1 := blk_cell hrs 1
      have r2 := blk_cell hrs 2
      have r3 := blk_cell hrs 3
      have r4 := blk_cell hrs 4
      have r5 := blk_cell hrs 5
      simp at r0 r1 r2 r3 r4 r5
      have q0 : wr.frozen? ⟨w.heap.size + 1, 0, none⟩ = false := by simp [World.frozen?, hrs]
      have q1 : wr.frozen? ⟨w.heap.size + 1, 1, none⟩ = false := by simp [World.frozen?, hrs]
      have q2 : wr.frozen? ⟨w.heap.size + 1, 2, none⟩ = false := by simp [World.frozen?, hrs]
      have q3 : wr.frozen? ⟨w.heap.size + 1, 3, none⟩ = false := by simp [World.frozen?, hrs]
      have q4 : wr.frozen? ⟨w.heap.size + 1, 4, none⟩ = false := by simp [World.frozen?, hrs]
      have q5 : wr.frozen? ⟨w.heap.size + 1, 5, none⟩ = false := by simp [World.frozen?, hrs]
      clear hbx hrs
      have HF : Hid (∃ A, A = wr.setCell ⟨w.heap.size, 4, none⟩ (.slice ba x.bn bc)) := Hid.mk ⟨_, rfl⟩
      go_wp2
      have hk := HK.out
      have hr0 : (wr.setCell ⟨w.heap.size, 4, none⟩ (.slice ba x.bn bc)).heap[w.heap.size + 1]? = some (.cells #[.int .i64 0, .int .i64 0, .int .i64 0, .int .i64 0, .slice none 0 0, .slice none 0 0] 39 (0, 0)) := (Below.heap_setCell _ _ _ _ (by simp)).trans hk.res
      have hr6 := blk_set (i := 5) (u := .slice so1 x.sn sc1) (blk_set (i := 4) (u := .slice ba x.bn bc) (blk_set (i := 3) (u := .int .i64 x.size) (blk_set (i := 2) (u := .int .i64 x.links) (blk_set (i := 1) (u := .int .i64 x.kind) (blk_set (i := 0) (u := .int .i64 x.ino) hr0)))))
      refine bodyPost_ret (results_no (y := { x with bo := ba, bc := bc, P := P', so := so1, sc := sc1 }) rfl rfl hr6) rfl ?_
      refine ⟨{ x with bo := ba, bc := bc, P := P', so := so1, sc := sc1 }, rfl, ⟨rfl, rfl, rfl, rfl, rfl, rfl, fun _ _ => rfl, hk.same⟩, ?_, ?_⟩
      · refine OwN.kept (W := wr) ⟨hk.slots, hk.row, hk.data⟩ (fun g cs t _ hg ht => ?_)
        iterate 6 refine (Below.heap_setCell _ _ _ _ (ty_ne hg hk.res ht)).trans ?_
        exact Below.heap_setCell _ _ _ _ (ty_ne hg hk.box ht)
      · exact ((((((hk.below.setCell (Nat.le_refl _) _).setCell (by simp) _).setCell (by simp) _).setCell (by simp) _).setCell (by simp) _).setCell (by simp) _).setCell (by simp) _
end Go.Proofs.Ytbahbhaoimabdaa
