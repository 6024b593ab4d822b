/-
  Pack of the program.
-/
import Derived.Test.YteegopccpgbakaaDinSpec
import Derived.Deep.Cut
import Derived.Deep.CutRange
import Derived.Deep.CutBlock
namespace Go.Proofs.Yteegopccpgbakaa
open Go Go.Proofs Go.RowKit Go.Shelf
namespace Din
theorem _root_.Go.Proofs.Yteegopccpgbakaa.LAt.below {B : Nat} {W W' : World} {g n : Nat} {xs : List Int} (h : LAt W (some ⟨g, 0, none⟩) n xs) (hb : Below B W W') (hg : g < B) : LAt W' (some ⟨g, 0, none⟩) n xs := by
  refine ⟨h.1, fun hn => ?_⟩
  obtain ⟨a, e, hlt, hc⟩ := h.2 hn
  cases e
  refine ⟨_, rfl, Nat.lt_of_lt_of_le hlt hb.size, fun i hi => ?_⟩
  rw [World.cell?_of_block (w := W) (by rw [add_block]; exact hb.block _ hg)]
  exact hc i hi
theorem _root_.Go.Proofs.Yteegopccpgbakaa.LAt.lt {W : World} {g n : Nat} {xs : List Int} (h : LAt W (some ⟨g, 0, none⟩) n xs) (hn : 0 < n) : g < W.heap.size := by
  obtain ⟨a, e, hlt, hc⟩ := h.2 hn
  cases e
  exact hlt
/-- What Pack holds in memory: the inode, its numbers in two rows. -/
structure PkAt (w : World) (b gh gw : Nat) (l : List Int) (W : World) : Prop where
  ino : NAt b l W
  half : LAt W (some ⟨gh, 0, none⟩) 2 (halfL l)
  word : LAt W (some ⟨gw, 0, none⟩) 11 (l.drop 2)
  below : Below b w W
  gh : b < gh
  gw : b < gw
theorem PkAt.then {w W W' : World} {b gh gw : Nat} {l : List Int} (h : PkAt w b gh gw l W) (hb : Below W.heap.size W W') : PkAt w b gh gw l W' :=
  ⟨h.ino.below hb h.ino.lt, h.half.below hb (h.half.lt (by omega)), h.word.below hb (h.word.lt (by omega)), h.below.trans (hb.mono (Nat.le_of_lt h.ino.lt)), h.gh, h.gw⟩
theorem PkAt.drew {w W : World} {b gh gw : Nat} {l : List Int} (h : PkAt w b gh gw l W) : PkAt w b gh gw l W.drew := ⟨h.ino, h.half, h.word, h.below.drew, h.gh, h.gw⟩
theorem PkAt.put {w W W' : World} {b gh gw g : Nat} {l : List Int} (h : PkAt w b gh gw l W) (ho : Only (fun k => k = g) W W') (h1 : gh < g) (h2 : gw < g) : PkAt w b gh gw l W' :=
  ⟨h.ino.only ho (by have := h.gh; omega), h.half.only ho (fun a e _ => by cases e; exact fun e => by simp at e; omega), h.word.only ho (fun a e _ => by cases e; exact fun e => by simp at e; omega), h.below.trans (ho.below (Nat.le_of_lt h.ino.lt) (fun k e => by rw [e]; have := h.gh; omega)), h.gh, h.gw⟩
theorem exec_neq_is {ev : Operand → Value} {oi : Oper} {x y : Operand} {u : TypeId} {l m : List Int} {w : World} (c : Bool) (hc : eqB l m = c) (ho : oi.op = .binOp .neq 45 x y u) (hx : ev x = inoV l) (hy : ev y = inoV m) (hl : l.length = 13) (hm : m.length = 13) : (execOp ev oi).run Try.prog w = .ok (.value (.bool (!c))) w := by
  subst hc
  exact exec_neq ho hx hy hl hm
theorem exec_eql_is {ev : Operand → Value} {oi : Oper} {x y : Operand} {u : TypeId} {l m : List Int} {w : World} (c : Bool) (hc : eqB l m = c) (ho : oi.op = .binOp .eql 45 x y u) (hx : ev x = inoV l) (hy : ev y = inoV m) (hl : l.length = 13) (hm : m.length = 13) : (execOp ev oi).run Try.prog w = .ok (.value (.bool c)) w := by
  subst hc
  exact exec_eql ho hx hy hl hm
/-! One operation each, its form asked for first. -/
section
variable {w : World} {ops : Array Oper} {rest : List Oper} {o : Oper} {a : Act} {Q : Exit → Act → World → Prop}
theorem wpL_load (x : Operand) (ho : o.op = .load 45 x) (hw : Region.wanted o (yielded ops a.tmps) = true) (b : Nat) (l : List Int) (hx : a.eval x = .pointer (some ⟨b, 0, none⟩)) (hN : NAt b l w) (hl : l.length = 13) (h : wpList Try.prog ops Q rest (a.put o.dst (inoV l)) w) : wpList Try.prog ops Q (o :: rest) a w :=
  wpList_known hw _ _ (exec_load24 ho hx hN hl) h
theorem wpL_store (p x : Operand) (ho : o.op = .store 45 p x) (hw : Region.wanted o (yielded ops a.tmps) = true) (v u : Value) (w' : World) (hp : a.eval p = v) (hx : a.eval x = u) (hr : (Instr.storeAt 45 v u).run Try.prog w = .ok () w') (h : wpList Try.prog ops Q rest (a.put o.dst undef) w') : wpList Try.prog ops Q (o :: rest) a w :=
  wpList_stored hw _ (exec_store ho hp hx hr) h
theorem wpL_build (ho : o.op = .build 45 #[]) (hw : Region.wanted o (yielded ops a.tmps) = true) (h : wpList Try.prog ops Q rest (a.put o.dst (inoV (zeros 13))) w) : wpList Try.prog ops Q (o :: rest) a w :=
  wpList_known hw _ _ (exec_build24 ho) h
theorem wpL_alloc (ho : o.op = .alloc 45) (hw : Region.wanted o (yielded ops a.tmps) = true) (v : Value) (w' : World) (hr : (Instr.alloc 45 true (.tuple #[])).run Try.prog w = .ok v w') (h : wpList Try.prog ops Q rest (a.put o.dst v) w') : wpList Try.prog ops Q (o :: rest) a w :=
  wpList_known hw _ _ (exec_alloc ho hr) h
theorem wpL_neq (x y : Operand) (u : TypeId) (ho : o.op = .binOp .neq 45 x y u) (hw : Region.wanted o (yielded ops a.tmps) = true) (l m : List Int) (c : Bool) (hc : eqB l m = c) (hx : a.eval x = inoV l) (hy : a.eval y = inoV m) (hl : l.length = 13) (hm : m.length = 13) (h : wpList Try.prog ops Q rest (a.put o.dst (.bool (!c))) w) : wpList Try.prog ops Q (o :: rest) a w :=
  wpList_known hw _ _ (exec_neq_is c hc ho hx hy hl hm) h
theorem wpL_eql (x y : Operand) (u : TypeId) (ho : o.op = .binOp .eql 45 x y u) (hw : Region.wanted o (yielded ops a.tmps) = true) (l m : List Int) (c : Bool) (hc : eqB l m = c) (hx : a.eval x = inoV l) (hy : a.eval y = inoV m) (hl : l.length = 13) (hm : m.length = 13) (h : wpList Try.prog ops Q rest (a.put o.dst (.bool c)) w) : wpList Try.prog ops Q (o :: rest) a w :=
  wpList_known hw _ _ (exec_eql_is c hc ho hx hy hl hm) h
theorem wpL_box (x : Operand) (ho : o.op = .box 45 x) (hw : Region.wanted o (yielded ops a.tmps) = true) (l : List Int) (hx : a.eval x = inoV l) (h : wpList Try.prog ops Q rest (a.put o.dst (.pointer (some ⟨w.heap.size, 0, none⟩))) (w.alloc (.cells (Iy l).toArray 45))) : wpList Try.prog ops Q (o :: rest) a w :=
  wpList_known hw _ _ (exec_box24 ho hx) h
end
set_option maxRecDepth 100000 in
set_option maxHeartbeats 4000000 in
theorem pack_any (w : World) (l : List Int) (hl : l.length = 13) : Calls Try.prog 28 #[inoV l] w fun e w' => Below w.heap.size w w' ∧ ((fineL l = false ∧ e = .returned (.tuple #[.slice none 0 0, .int .i64 1])) ∨
    (fineL l = true ∧ ∃ g, e = .returned (.tuple #[.slice (some ⟨g, 0, none⟩) 64 64, .int .i64 0]) ∧ RAt w' g (inoL l) ∧ w.heap.size ≤ g)) := by
  obtain ⟨W1, hW1⟩ : ∃ W1, W1 = w.alloc (.cells (Iy l).toArray 45) := ⟨_, rfl⟩
  have hB1 : Below w.heap.size w W1 := by rw [hW1]; exact (Below.refl _ w).alloc (Nat.le_refl _) _
  have hN1 : NAt w.heap.size l W1 := by rw [hW1]; exact NAt.new w l
  obtain ⟨b, hb⟩ : ∃ b, b = w.heap.size := ⟨_, rfl⟩
  rw [← hb] at hN1 hB1 ⊢
  have HW1 := Hid.mk hW1
  have HBE := Hid.mk hb
  clear hW1 hb
  have HN1 := Hid.mk hN1
  have HB1 := Hid.mk hB1
  have HC : Hid (∀ W', NAt b l W' → W'.cell? ⟨b, 0, none⟩ = some (.int .i64 (l.getD 0 0)) ∧ W'.cell? ⟨b, 1, none⟩ = some (.int .i64 (l.getD 1 0))) := Hid.mk (fun W' h => ⟨h.cell 0 (by omega), h.cell 1 (by omega)⟩)
  -- what the region leaves, in either order
  have HF1 : Hid (∀ (W2 W3 : World) (v : Value), W2 = W1.drew.alloc (.cells (Iy (halfL l)).toArray 3) → W3.ownsRow W2.heap.size 3 1 v 11 (Iy (l.drop 2)) → Below W2.heap.size W2 W3 → ∃ gw c, v = .slice (some ⟨gw, 0, none⟩) 11 c ∧ PkAt w b W1.drew.heap.size gw l W3) := Hid.mk (fun W2 W3 v h2 ho hB => by
    obtain ⟨g, c, rfl, hla, hge⟩ := owns_LAt ho (by omega)
    have hq : QAt W2 W1.drew.heap.size (halfL l) := by rw [h2]; exact blk_new _ _
    have hb2 : Below b W1.drew W2 := by rw [h2]; exact (Below.refl _ W1.drew).alloc (Nat.le_of_lt hN1.lt) _
    have hn2 : NAt b l W2 := by rw [h2]; exact NAt.below (W := W1.drew) hN1 ((Below.refl _ W1.drew).alloc (Nat.le_refl _) _) hN1.lt
    have := hn2.lt
    exact ⟨g, c, rfl, hn2.below hB hn2.lt, (hq.below hB hq.lt).lat rfl, hla, (hB1.drew.trans hb2).trans (hB.mono (by omega)), hN1.lt, by omega⟩)
  have HF2 : Hid (∀ (W3 : World) (v : Value), W3.ownsRow W1.drew.heap.size 3 1 v 11 (Iy (l.drop 2)) → Below W1.drew.heap.size W1.drew W3 → ∃ gw c, v = .slice (some ⟨gw, 0, none⟩) 11 c ∧ PkAt w b W3.heap.size gw l (W3.alloc (.cells (Iy (halfL l)).toArray 3))) := Hid.mk (fun W3 v ho hB => by
    obtain ⟨g, c, rfl, hla, hge⟩ := owns_LAt ho (by omega)
    have hn3 : NAt b l W3 := NAt.below (W := W1.drew) hN1 hB hN1.lt
    have hbn : Below W3.heap.size W3 (W3.alloc (.cells (Iy (halfL l)).toArray 3)) := (Below.refl _ W3).alloc (Nat.le_refl _) _
    have hq : QAt (W3.alloc (.cells (Iy (halfL l)).toArray 3)) W3.heap.size (halfL l) := blk_new _ _
    have h1 : b < W1.drew.heap.size := hN1.lt
    exact ⟨g, c, rfl, hn3.below hbn hn3.lt, hq.lat rfl, hla.below hbn (hla.lt (by omega)), (hB1.drew.trans (hB.mono (Nat.le_of_lt h1))).trans (hbn.mono (Nat.le_of_lt hn3.lt)), hn3.lt, by omega⟩)
  clear hN1 hB1
  obtain ⟨K, hK⟩ : ∃ K, K = l.getD 0 0 := ⟨_, rfl⟩
  obtain ⟨L, hL⟩ : ∃ L, L = l.getD 1 0 := ⟨_, rfl⟩
  rw [← hK, ← hL] at HC
  have HH : Hid (halfL l = [K, L]) := Hid.mk (by rw [hK, hL]; rfl)
  rw [HH.out] at HF1 HF2
  have hS1 := HC.out W1.drew HN1.out
  go_enter Try.func28, Try.ntmps28
  go_upto_region 1 with (refine wpList_known rfl (.pointer (some ⟨b, 0, none⟩)) W1 (by rw [HW1.out, HBE.out]; exact exec_box24 (x := .tmp 0) rfl rfl) ?_)
  go_cut [4, 5] from 7 to 13 (fun h v wx => ∃ gh gw c, h = .slice (some ⟨gh, 0, none⟩) 2 2 ∧ v = .slice (some ⟨gw, 0, none⟩) 11 c ∧ PkAt w b gh gw l wx)
  case first =>
    refine wp_region_held_drew (S := NAt b l) (by kernel_rfl) HN1.out (fun hH => ?_)
    change wpAnyH Try.prog Region.Mode.any _ _ _ 9 _ _ _
    refine takeH 0 7 (.pointer (some ⟨b, 0, none⟩)) rfl (by kernel_rfl) (by kernel_rfl) (by kernel_rfl) (by kernel_rfl) (fun _ _ _ h => h) (by kernel_rfl) (fun w hw => by (try dsimp only at hw); go_simp) hH ?_
    simp only [List.setIfInBounds_toArray, List.set_cons_zero, List.set_cons_succ]
    refine takeH 1 8 (.int .i64 K) rfl (by kernel_rfl) (by kernel_rfl) (by kernel_rfl) (by kernel_rfl) (fun _ _ _ h => h) (by kernel_rfl) (fun w hw => by (have h := HC.out _ hw; go_simp)) hH ?_
    simp only [List.setIfInBounds_toArray, List.set_cons_zero, List.set_cons_succ]
    refine takeH 2 9 (.pointer (some ⟨b, 1, none⟩)) rfl (by kernel_rfl) (by kernel_rfl) (by kernel_rfl) (by kernel_rfl) (fun _ _ _ h => h) (by kernel_rfl) (fun w hw => by (try dsimp only at hw); go_simp) hH ?_
    simp only [List.setIfInBounds_toArray, List.set_cons_zero, List.set_cons_succ]
    refine takeH 3 10 (.int .i64 L) rfl (by kernel_rfl) (by kernel_rfl) (by kernel_rfl) (by kernel_rfl) (fun _ _ _ h => h) (by kernel_rfl) (fun w hw => by (have h := HC.out _ hw; go_simp)) hH ?_
    simp only [List.setIfInBounds_toArray, List.set_cons_zero, List.set_cons_succ]
    refine takeH 5 12 (inoV l) rfl (by kernel_rfl) (by kernel_rfl) (by kernel_rfl) (by kernel_rfl) (fun _ _ _ h => h) (by kernel_rfl) (fun w hw => by exact exec_load24 (x := .tmp 1) rfl (by kernel_rfl) hw hl) hH ?_
    simp only [List.setIfInBounds_toArray, List.set_cons_zero, List.set_cons_succ]
    have hH2 : NAt b l (W1.drew.alloc (.cells (Iy [K, L]).toArray 3)) := NAt.below (W := W1.drew) HN1.out ((Below.refl _ W1.drew).alloc (Nat.le_refl _) _) HN1.out.lt
    refine stepH_two 4 6 (by kernel_rfl) ?_ ?_
    · refine opH_run 4 11 (.slice (some ⟨W1.drew.heap.size, 0, none⟩) 2 2) (W1.drew.alloc (.cells (Iy [K, L]).toArray 3)) rfl (by kernel_rfl) (by kernel_rfl) (by kernel_rfl) hH2 ?_
      simp only [List.setIfInBounds_toArray, List.set_cons_zero, List.set_cons_succ]
      refine stepH_call 6 13 rfl (by kernel_rfl) (by kernel_rfl) (by kernel_rfl) 47 #[.tmp 12] #[45] (by kernel_rfl) (enters_of Try.func47 (by kernel_rfl) rfl) #[inoV l] (by kernel_rfl) (words_any _ l hl) ?_
      rintro e W3 ⟨v3, rfl, ho3, hB3⟩
      obtain ⟨gw, c, rfl, hP⟩ := HF1.out _ W3 v3 rfl ho3 hB3
      have HP := Hid.mk hP
      clear ho3 hB3 hP
      have hH3 := HP.out.ino
      refine ⟨_, rfl, hH3, ?_⟩
      simp only [List.setIfInBounds_toArray, List.set_cons_zero, List.set_cons_succ]
      refine takeH 7 4 (.slice (some ⟨W1.drew.heap.size, 0, none⟩) 2 2) rfl (by kernel_rfl) (by kernel_rfl) (by kernel_rfl) (by kernel_rfl) (fun _ _ _ h => h) (by kernel_rfl) (fun w hw => by kernel_rfl) hH3 ?_
      simp only [List.setIfInBounds_toArray, List.set_cons_zero, List.set_cons_succ]
      refine takeH 8 5 (.slice (some ⟨gw, 0, none⟩) 11 c) rfl (by kernel_rfl) (by kernel_rfl) (by kernel_rfl) (by kernel_rfl) (fun _ _ _ h => h) (by kernel_rfl) (fun w hw => by kernel_rfl) hH3 ?_
      simp only [List.setIfInBounds_toArray, List.set_cons_zero, List.set_cons_succ]
      refine wpAnyH_done (by kernel_rfl) ?_ _
      clear hH hH2 hH3
      go_wp2_with fail
      go_meet
      case rel => exact ⟨_, gw, c, rfl, rfl, HP.out⟩
    · refine opH_call 6 13 rfl (by kernel_rfl) (by kernel_rfl) 47 #[.tmp 12] #[45] (by kernel_rfl) (enters_of Try.func47 (by kernel_rfl) rfl) #[inoV l] (by kernel_rfl) (words_any _ l hl) ?_
      rintro e W3 ⟨v3, rfl, ho3, hB3⟩
      obtain ⟨gw, c, rfl, hP⟩ := HF2.out W3 v3 ho3 hB3
      have HP := Hid.mk hP
      have hH3 : NAt b l W3 := NAt.below (W := W1.drew) HN1.out hB3 HN1.out.lt
      clear ho3 hB3 hP
      refine ⟨_, rfl, hH3, ?_⟩
      simp only [List.setIfInBounds_toArray, List.set_cons_zero, List.set_cons_succ]
      refine stepH_run 4 11 (.slice (some ⟨W3.heap.size, 0, none⟩) 2 2) (W3.alloc (.cells (Iy [K, L]).toArray 3)) rfl (by kernel_rfl) (by kernel_rfl) (by kernel_rfl) (by kernel_rfl) HP.out.ino ?_
      simp only [List.setIfInBounds_toArray, List.set_cons_zero, List.set_cons_succ]
      refine takeH 7 4 (.slice (some ⟨W3.heap.size, 0, none⟩) 2 2) rfl (by kernel_rfl) (by kernel_rfl) (by kernel_rfl) (by kernel_rfl) (fun _ _ _ h => h) (by kernel_rfl) (fun w hw => by kernel_rfl) HP.out.ino ?_
      simp only [List.setIfInBounds_toArray, List.set_cons_zero, List.set_cons_succ]
      refine takeH 8 5 (.slice (some ⟨gw, 0, none⟩) 11 c) rfl (by kernel_rfl) (by kernel_rfl) (by kernel_rfl) (by kernel_rfl) (fun _ _ _ h => h) (by kernel_rfl) (fun w hw => by kernel_rfl) HP.out.ino ?_
      simp only [List.setIfInBounds_toArray, List.set_cons_zero, List.set_cons_succ]
      refine wpAnyH_done (by kernel_rfl) ?_ _
      clear hH hH2 hH3
      go_wp2_with fail
      go_meet
      case rel => exact ⟨_, gw, c, rfl, rfl, HP.out⟩
  case rest =>
    obtain ⟨gh, gw, c, rfl, rfl, hP⟩ := hcut
    have HP := Hid.mk hP
    have hc0 := (HC.out wc hP.ino).1
    have HFE : Hid (fineL l = (kindB K && (fitL 65535 [K, L] && (fitL 4294967295 (l.drop 2) && (!decide (K = 0) || eqB l (zeros 13)))))) := Hid.mk (by unfold fineL; rw [HH.out, ← hK])
    have HLA : Hid (LAt wc (some ⟨gh, 0, none⟩) 2 [K, L]) := Hid.mk (by have h := hP.half; rwa [HH.out] at h)
    have HLB : Hid (LAt wc (some ⟨gw, 0, none⟩) 11 (l.drop 2)) := Hid.mk hP.word
    clear HF1 HF2 hS1 hP HN1 HB1 hK hL HC HW1
    cases h1 : kindB K with
    | false =>
      have HD := Hid.mk (show fineL l = false by rw [HFE.out, h1]; rfl)
      have H1 := Hid.mk h1
      clear h1 HFE
      go_wp2_with (go_at_call 48; refine (iskind_any _ _).mono ?_; rintro e w' ⟨rfl, hw⟩; subst w'; rw [H1.out])
      go_ret2
      exact ⟨HP.out.below, .inl ⟨HD.out, rfl⟩⟩
    | true =>
      have H1 := Hid.mk h1
      clear h1
      cases h2 : fitL 65535 [K, L] with
      | false =>
        have HD := Hid.mk (show fineL l = false by rw [HFE.out, H1.out, h2]; rfl)
        have H2 := Hid.mk h2
        clear h2 HFE
        go_wp2_with (first
          | (go_at_call 48; refine (iskind_any _ _).mono ?_; rintro e w' ⟨rfl, hw⟩; subst w'; rw [H1.out])
          | (go_at_call 49; refine (fits16_any _ _ 2 2 _ HLA.out (by omega)).mono ?_; rintro e w' ⟨rfl, hw⟩; subst w'; rw [H2.out]))
        go_ret2
        exact ⟨HP.out.below, .inl ⟨HD.out, rfl⟩⟩
      | true =>
        have H2 := Hid.mk h2
        clear h2
        cases h3 : fitL 4294967295 (l.drop 2) with
        | false =>
          have HD := Hid.mk (show fineL l = false by rw [HFE.out, H1.out, H2.out, h3]; rfl)
          have H3 := Hid.mk h3
          clear h3 HFE
          go_wp2_with (first
            | (go_at_call 48; refine (iskind_any _ _).mono ?_; rintro e w' ⟨rfl, hw⟩; subst w'; rw [H1.out])
            | (go_at_call 49; refine (fits16_any _ _ 2 2 _ HLA.out (by omega)).mono ?_; rintro e w' ⟨rfl, hw⟩; subst w'; rw [H2.out])
            | (go_at_call 50; refine (fits32_any _ _ 11 c _ HLB.out (by omega)).mono ?_; rintro e w' ⟨rfl, hw⟩; subst w'; rw [H3.out]))
          go_ret2
          exact ⟨HP.out.below, .inl ⟨HD.out, rfl⟩⟩
        | true =>
          have H3 := Hid.mk h3
          clear h3
          -- the row that is made
          obtain ⟨g, hg⟩ : ∃ g, g = wc.heap.size := ⟨_, rfl⟩
          obtain ⟨W2, hW2⟩ : ∃ W2, W2 = wc.alloc (.cells (By (zeros 64)).toArray 5) := ⟨_, rfl⟩
          have hMK := make_run wc 64 (by omega)
          rw [← hg] at hMK
          change _ = Result.ok _ (wc.alloc (.cells (By (zeros 64)).toArray 5)) at hMK
          rw [← hW2] at hMK
          have hP2 : PkAt w b gh gw l W2 := by rw [hW2]; exact HP.out.then ((Below.refl _ wc).alloc (Nat.le_refl _) _)
          have hR2 : RAt W2 g (zeros 64) := by rw [hW2, hg]; exact blk_new wc _
          have hgh : gh < g := by rw [hg]; exact HP.out.half.lt (by omega)
          have hgw : gw < g := by rw [hg]; exact HP.out.word.lt (by omega)
          have hgb : b ≤ g := by have := HP.out.gh; omega
          have HQ1 : Hid (Calls Try.prog 42 #[.slice (some ⟨g, 0, none⟩) 64 64, .slice (some ⟨gh, 0, none⟩) 2 2] W2 fun e w' => e = .returned (.int .i64 4) ∧ RAt w' g (splice (zeros 64) 0 (leLs 2 (halfL l))) ∧ PkAt w b gh gw l w') := Hid.mk (by
            refine (put16_any W2 g 0 64 64 (zeros 64) (some ⟨gh, 0, none⟩) 2 2 (halfL l) hR2 hP2.half (fun a e => by cases e; exact Nat.ne_of_lt hgh) (by rw [HH.out]; exact fitL_iff.1 H2.out) (by omega) (by rw [zeros_length]; omega) (by omega)).mono ?_
            rintro e w' ⟨rfl, h1, h2⟩
            exact ⟨rfl, h1, hP2.put h2 hgh hgw⟩)
          have HQ2 : Hid (∀ W3, RAt W3 g (splice (zeros 64) 0 (leLs 2 (halfL l))) → PkAt w b gh gw l W3 → Calls Try.prog 40 #[.slice (some ⟨g, 4, none⟩) 60 60, .slice (some ⟨gw, 0, none⟩) 11 c] W3 fun e w' => e = .returned (.int .i64 44) ∧ RAt w' g (inoL l) ∧ PkAt w b gh gw l w') := Hid.mk (fun W3 h1 h2 => by
            refine (put32_any W3 g 4 60 60 _ (some ⟨gw, 0, none⟩) 11 c (l.drop 2) h1 h2.word (fun a e => by cases e; exact Nat.ne_of_lt hgw) (fitL_iff.1 H3.out) (by omega) (by rw [splice_length _ _ _ (by simp [leLs_length, halfL, zeros_length]), zeros_length]; omega) (by omega)).mono ?_
            rintro e w' ⟨rfl, h3, h4⟩
            rw [ino_put l hl] at h3
            exact ⟨rfl, h3, h2.put h4 hgh hgw⟩)
          have HMK := Hid.mk hMK
          have HGB := Hid.mk hgb
          clear hMK hP2 hR2 hW2 hg hgh hgw hgb
          by_cases h4 : K = 0
          · subst h4
            cases h5 : eqB l (zeros 13) with
            | false =>
              have HD := Hid.mk (show fineL l = false by rw [HFE.out, H1.out, H2.out, H3.out, h5]; rfl)
              have H5 := Hid.mk h5
              clear h5 HFE HQ1 HQ2 HMK
              go_wp2_with (first
                | (go_at_call 48; refine (iskind_any _ _).mono ?_; rintro e w' ⟨rfl, hw⟩; subst w'; rw [H1.out])
                | (go_at_call 49; refine (fits16_any _ _ 2 2 _ HLA.out (by omega)).mono ?_; rintro e w' ⟨rfl, hw⟩; subst w'; rw [H2.out])
                | (go_at_call 50; refine (fits32_any _ _ 11 c _ HLB.out (by omega)).mono ?_; rintro e w' ⟨rfl, hw⟩; subst w'; rw [H3.out])
                | (refine wpL_load (.tmp 1) rfl rfl b l rfl HP.out.ino hl ?_)
                | (refine wpL_build rfl rfl ?_)
                | (refine wpL_neq (.tmp 32) (.tmp 33) 45 rfl rfl l (zeros 13) false H5.out rfl rfl hl (zeros_length 13) ?_))
              go_ret2
              exact ⟨HP.out.below, .inl ⟨HD.out, rfl⟩⟩
            | true =>
              have HD := Hid.mk (show fineL l = true by rw [HFE.out, H1.out, H2.out, H3.out, h5]; rfl)
              have H5 := Hid.mk h5
              clear h5 HFE
              go_wp2_with (first
                | (go_at_call 48; refine (iskind_any _ _).mono ?_; rintro e w' ⟨rfl, hw⟩; subst w'; rw [H1.out])
                | (go_at_call 49; refine (fits16_any _ _ 2 2 _ HLA.out (by omega)).mono ?_; rintro e w' ⟨rfl, hw⟩; subst w'; rw [H2.out])
                | (go_at_call 50; refine (fits32_any _ _ 11 c _ HLB.out (by omega)).mono ?_; rintro e w' ⟨rfl, hw⟩; subst w'; rw [H3.out])
                | (refine wpL_load (.tmp 1) rfl rfl b l rfl HP.out.ino hl ?_)
                | (refine wpL_build rfl rfl ?_)
                | (refine wpL_neq (.tmp 32) (.tmp 33) 45 rfl rfl l (zeros 13) true H5.out rfl rfl hl (zeros_length 13) ?_)
                | (at_make; refine wpList_make_known rfl _ _ 26 rfl _ _ _ _ rfl rfl HMK.out ?_)
                | (go_at_call 42; refine HQ1.out.mono ?_; rintro e W3 ⟨rfl, hr3, hp3⟩; have HR3 := Hid.mk hr3; have HP3 := Hid.mk hp3; clear hr3 hp3)
                | (go_at_call 40; refine (HQ2.out _ HR3.out HP3.out).mono ?_; rintro e W4 ⟨rfl, hr4, hp4⟩; have HR4 := Hid.mk hr4; have HP4 := Hid.mk hp4; clear hr4 hp4))
              go_ret2
              exact ⟨HP4.out.below, .inr ⟨HD.out, g, rfl, HR4.out, HGB.out⟩⟩
          · have HD := Hid.mk (show fineL l = true by rw [HFE.out, H1.out, H2.out, H3.out, decide_eq_false h4]; rfl)
            have hk0 : (K == 0) = false := by simp [h4]
            clear HFE
            go_wp2_with (first
              | (go_at_call 48; refine (iskind_any _ _).mono ?_; rintro e w' ⟨rfl, hw⟩; subst w'; rw [H1.out])
              | (go_at_call 49; refine (fits16_any _ _ 2 2 _ HLA.out (by omega)).mono ?_; rintro e w' ⟨rfl, hw⟩; subst w'; rw [H2.out])
              | (go_at_call 50; refine (fits32_any _ _ 11 c _ HLB.out (by omega)).mono ?_; rintro e w' ⟨rfl, hw⟩; subst w'; rw [H3.out])
              | (at_make; refine wpList_make_known rfl _ _ 26 rfl _ _ _ _ rfl rfl HMK.out ?_)
              | (go_at_call 42; refine HQ1.out.mono ?_; rintro e W3 ⟨rfl, hr3, hp3⟩; have HR3 := Hid.mk hr3; have HP3 := Hid.mk hp3; clear hr3 hp3)
              | (go_at_call 40; refine (HQ2.out _ HR3.out HP3.out).mono ?_; rintro e W4 ⟨rfl, hr4, hp4⟩; have HR4 := Hid.mk hr4; have HP4 := Hid.mk hp4; clear hr4 hp4))
            go_ret2
            exact ⟨HP4.out.below, .inr ⟨HD.out, g, rfl, HR4.out, HGB.out⟩⟩
end Din
end Go.Proofs.Yteegopccpgbakaa
