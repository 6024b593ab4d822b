/-
  The reference's Stuck.
-/
import Derived.Test.YtoediflikoedaaaLayRp
namespace Go.Proofs.Ytoediflikoedaaa
open Go Go.Proofs Go.RowKit Go.Shelf
attribute [local go_sem] Oper.semAt_some
def lenAt (W : World) (c f : Nat) : Nat := match W.cell? ⟨c, f, none⟩ with
  | some (.slice _ n _) => n
  | _ => 0
def totAt (W : World) (c : Nat) : Nat := lenAt W c 0 + lenAt W c 1
theorem tot_at {F : Nat → Prop} {W : World} {c : Nat} {R : Rf} (h : RfAt F W c R) : totAt W c = R.held.length + R.row.length := by
  obtain ⟨vH, vR, h1, h2, h3, _⟩ := h
  obtain ⟨a, b, rfl, _⟩ := sl_len h2
  obtain ⟨a', b', rfl, _⟩ := sl_len h3
  unfold totAt lenAt
  rw [blk_cell h1, blk_cell h1]
  rfl
def agN (v : Value) : Nat := match v with
  | .bool true => 1
  | _ => 0
/-- Between two rounds: the copy, and how it was come to. -/
structure Sk (w W : World) (c : Nat) (A : Ta) (N : Nat) (R : Rf) (A' : Ta) : Prop where
  at' : RfAt (fun k => w.heap.size ≤ k ∧ k < W.heap.size) W c R
  bel : Below w.heap.size w W
  eqv : Eqv R A'
  ok : A'.Ok
  run : Run A A'
  len : R.held.length + R.row.length ≤ N
theorem Sk.below {w W W' : World} {c N : Nat} {A A' : Ta} {R : Rf} (h : Sk w W c A N R A') (hB : Below W.heap.size W W') : Sk w W' c A N R A' := ⟨(h.at'.below hB).mono (fun _ _ q => ⟨q.1, Nat.lt_of_lt_of_le q.2 hB.size⟩), h.bel.trans (hB.mono h.bel.size), h.eqv, h.ok, h.run, h.len⟩
theorem sk_rel {w W : World} {c N : Nat} {A A' : Ta} {R : Rf} (h : Sk w W c A N R A') (hN : N ≤ 400000) {l : Lk} (hl : l ∈ R.held) (hw : R.waits l.th = none) : Calls Try.prog 15 #[ptV c, .int .i64 l.th, .int .i64 l.tg] W fun e W' => ∃ ao n c', e = .returned (.slice ao n c') ∧ Hid (Sk w W' c A N (R.rel l.th l.tg) (A'.rel l.th l.tg) ∧ totAt W' c < totAt W c) := by
  obtain ⟨h1, h2⟩ := eqv_step h.ok h.eqv hl hw
  have hlen := h.len
  refine (rrel_any h.at' (fun _ q => q.2) l.th l.tg (by omega) (by omega)).mono ?_
  rintro e W' ⟨ao, c', rfl, HQ⟩
  obtain ⟨q1, q2, q3⟩ := HQ.out
  have hlt := rel_lt h2
  have hat : RfAt (fun k => w.heap.size ≤ k ∧ k < W'.heap.size) W' c (R.rel l.th l.tg) := q2.mono (fun _ hk q => ⟨q.elim (fun e => e.1) (fun e => Nat.le_trans h.bel.size e), hk⟩)
  exact ⟨ao, _, c', rfl, Hid.mk ⟨⟨hat, h.bel.trans (q3.below h.bel.size (fun k q => q.1)), (eqv_rel h.eqv l.th l.tg).2, ok_rel h.ok _ _, h.run.snoc h1, by omega⟩, by rw [tot_at hat, tot_at h.at']; exact hlt⟩⟩
theorem ins_take {L : List Lk} {k : Nat} (hk : k < L.length) : insL (L.take (k + 1)) = insS (L.getD k Lk.zero).th (insL (L.take k)) := by
  have e : L.take (k + 1) = L.take k ++ [L.getD k Lk.zero] := by
    rw [List.take_add_one, List.getElem?_eq_getElem hk]
    simp [List.getD, List.getElem?_eq_getElem hk]
  rw [e]
  unfold insL
  rw [List.foldl_append]
  rfl
theorem sk_row {w W : World} {c N : Nat} {A A' : Ta} {R : Rf} (h : Sk w W c A N R A') : (∃ ao c', W.cell? ⟨c, 0, none⟩ = some (.slice ao R.held.length c') ∧ SlOk W (.slice ao R.held.length c') R.held) ∧ ∃ ao c', W.cell? ⟨c, 1, none⟩ = some (.slice ao R.row.length c') ∧ SlOk W (.slice ao R.row.length c') R.row := by
  obtain ⟨vH, vR, h1, h2, h3, _⟩ := h.at'
  obtain ⟨a, b, rfl, _⟩ := sl_len h2
  obtain ⟨a', b', rfl, _⟩ := sl_len h3
  exact ⟨⟨a, b, by rw [blk_cell h1]; rfl, h2⟩, ⟨a', b', by rw [blk_cell h1]; rfl, h3⟩⟩
theorem mem_getL {L : List Lk} {k : Nat} (hk : k < L.length) : L.getD k Lk.zero ∈ L := by
  rw [List.getD, List.getElem?_eq_getElem hk]
  exact List.getElem_mem _
set_option maxRecDepth 100000 in
set_option maxHeartbeats 4000000 in
theorem rstuck_any {F : Nat → Prop} {w : World} {r N : Nat} {R : Rf} {A : Ta} (h : RfAt F w r R) (he : Eqv R A) (hA : A.Ok) (hN : R.held.length + R.row.length ≤ N) (hM : N ≤ 400000) : Calls Try.prog 24 #[ptV r] w fun e w' => ∃ v, e = .returned v ∧ Hid (∃ R' A', w'.ownsRow w.heap.size 3 1 v (insL R'.row).length (Iy (insL R'.row)) ∧ Eqv R' A' ∧ A'.Ok ∧ Run A A' ∧ A'.Done ∧ Below w.heap.size w w' ∧ (insL R'.row).length ≤ N) := by
  obtain ⟨vH, vR, h1, h2, h3, _⟩ := h.below (drew_below w)
  obtain ⟨aH, cH, rfl, _⟩ := sl_len h2
  obtain ⟨aR, cR, rfl, _⟩ := sl_len h3
  obtain ⟨v1, W1, r1, o1, g1, b1⟩ := appLs h2 (by omega)
  obtain ⟨v2, W2, r2, o2, g2, b2⟩ := appLs (h3.keep (fun k q => b1.block k (h3.lt' q))) (by omega)
  obtain ⟨a1, c1, rfl, _⟩ := sl_len o1
  obtain ⟨a2, c2, rfl, _⟩ := sl_len o2
  obtain ⟨nH, hnH⟩ : ∃ n, R.held.length = n := ⟨_, rfl⟩
  obtain ⟨nR, hnR⟩ : ∃ n, R.row.length = n := ⟨_, rfl⟩
  rw [hnH] at h1 h2 r1 o1 g1
  rw [hnR] at h1 h3 r2 o2 g2
  have hrl := lt_of_block h1
  have e1 := (b1.block r hrl).trans h1
  have e2 := (b2.block r (lt_of_block e1)).trans e1
  have e3 : (W2.alloc (.cells #[.slice a1 nH c1, .slice a2 nR c2] 29)).heap[r]? = some (.cells #[.slice aH nH cH, .slice aR nR cR] 29 (0, 0)) := (Below.heap_alloc _ _ _ (lt_of_block e2)).trans e2
  have sx : ∀ V : World, V.heap[r]? = some (.cells #[.slice aH nH cH, .slice aR nR cR] 29 (0, 0)) → V.cell? ⟨r, 0, none⟩ = some (.slice aH nH cH) ∧ V.cell? ⟨r, 1, none⟩ = some (.slice aR nR cR) := fun V q => ⟨by rw [blk_cell q]; rfl, by rw [blk_cell q]; rfl⟩
  have hH := sx _ h1
  have HS1 := Hid.mk (sx _ e1)
  have HS2 := Hid.mk (sx _ e2)
  have HS3 := Hid.mk (sx _ e3)
  have HA1 := Hid.mk r1
  have HA2 := Hid.mk r2
  have HSK : Hid (Sk w (W2.alloc (.cells #[.slice a1 nH c1, .slice a2 nR c2] 29)) W2.heap.size A N R A) := Hid.mk (by
    have hb2 : Below w.heap.size w W2 := (drew_below w).trans ((b1.trans (b2.mono b1.size)))
    have hb3 : Below W2.heap.size W2 (W2.alloc (.cells #[.slice a1 nH c1, .slice a2 nR c2] 29)) := (Below.refl _ W2).alloc (Nat.le_refl _) _
    refine ⟨⟨_, _, blk_new W2 _, (o1.keep (fun k q => b2.block k (o1.lt' q))).keep (fun k q => hb3.block k (Nat.lt_of_lt_of_le (o1.lt' q) b2.size)), o2.keep (fun k q => hb3.block k (o2.lt' q)), ⟨hb2.size, by simp⟩, fun k q => ⟨g1 k q, Nat.lt_of_lt_of_le (o1.lt' q) (Nat.le_trans b2.size hb3.size)⟩, fun k q => ⟨Nat.le_trans b1.size (g2 k q), Nat.lt_of_lt_of_le (o2.lt' q) hb3.size⟩, fun k q e => ?_⟩, hb2.trans (hb3.mono hb2.size), he, hA, .nil _, hN⟩
    have := g2 k e
    have := o1.lt' q
    omega)
  clear h h1 h2 h3 r1 r2 o1 o2 g1 g2 b1 b2 e1 e2 e3 sx hrl hnH hnR he hA hN
  go_enter Try.func24, Try.ntmps24
  go_wp2
  refine wp_region_held_drew (S := fun V : World => V.cell? ⟨r, 0, none⟩ = some (.slice aH nH cH) ∧ V.cell? ⟨r, 1, none⟩ = some (.slice aR nR cR)) (by kernel_rfl) hH (fun hH => ?_)
  change wpAnyH Try.prog Region.Mode.any _ _ _ 13 _ _ _
  refine takeH 0 11 (.pointer (some ⟨r, 0, none⟩)) rfl (by kernel_rfl) (by kernel_rfl) (by kernel_rfl) (by kernel_rfl) (fun _ _ _ h => h) (by kernel_rfl) (fun w hw => by kernel_rfl) hH ?_
  simp only [List.setIfInBounds_toArray, List.set_cons_zero, List.set_cons_succ]
  refine takeH 1 12 (.pointer (some ⟨r, 0, none⟩)) rfl (by kernel_rfl) (by kernel_rfl) (by kernel_rfl) (by kernel_rfl) (fun _ _ _ h => h) (by kernel_rfl) (fun w hw => by go_simp) hH ?_
  simp only [List.setIfInBounds_toArray, List.set_cons_zero, List.set_cons_succ]
  refine takeH 2 13 (.pointer (some ⟨r, 0, none⟩)) rfl (by kernel_rfl) (by kernel_rfl) (by kernel_rfl) (by kernel_rfl) (fun _ _ _ h => h) (by kernel_rfl) (fun w hw => by go_simp) hH ?_
  simp only [List.setIfInBounds_toArray, List.set_cons_zero, List.set_cons_succ]
  refine takeH 3 14 (.slice aH nH cH) rfl (by kernel_rfl) (by kernel_rfl) (by kernel_rfl) (by kernel_rfl) (fun _ _ _ h => h) (by kernel_rfl) (fun w hw => by (try dsimp only at hw); obtain ⟨hw1, hw2⟩ := hw; go_simp) hH ?_
  simp only [List.setIfInBounds_toArray, List.set_cons_zero, List.set_cons_succ]
  refine takeH 5 16 (.pointer (some ⟨r, 0, none⟩)) rfl (by kernel_rfl) (by kernel_rfl) (by kernel_rfl) (by kernel_rfl) (fun _ _ _ h => h) (by kernel_rfl) (fun w hw => by kernel_rfl) hH ?_
  simp only [List.setIfInBounds_toArray, List.set_cons_zero, List.set_cons_succ]
  refine takeH 6 17 (.pointer (some ⟨r, 0, none⟩)) rfl (by kernel_rfl) (by kernel_rfl) (by kernel_rfl) (by kernel_rfl) (fun _ _ _ h => h) (by kernel_rfl) (fun w hw => by go_simp) hH ?_
  simp only [List.setIfInBounds_toArray, List.set_cons_zero, List.set_cons_succ]
  refine takeH 7 18 (.pointer (some ⟨r, 1, none⟩)) rfl (by kernel_rfl) (by kernel_rfl) (by kernel_rfl) (by kernel_rfl) (fun _ _ _ h => h) (by kernel_rfl) (fun w hw => by go_simp) hH ?_
  simp only [List.setIfInBounds_toArray, List.set_cons_zero, List.set_cons_succ]
  refine takeH 8 19 (.slice aR nR cR) rfl (by kernel_rfl) (by kernel_rfl) (by kernel_rfl) (by kernel_rfl) (fun _ _ _ h => h) (by kernel_rfl) (fun w hw => by (try dsimp only at hw); obtain ⟨hw1, hw2⟩ := hw; go_simp) hH ?_
  simp only [List.setIfInBounds_toArray, List.set_cons_zero, List.set_cons_succ]
  refine stepH_run 4 15 (.slice a1 nH c1) (W1) rfl (by kernel_rfl) (by kernel_rfl) (by kernel_rfl) (exec_append (s := .const (.slice none 0 0)) (x := .tmp 14) (by kernel_rfl) (by kernel_rfl) (by kernel_rfl) HA1.out) HS1.out ?_
  simp only [List.setIfInBounds_toArray, List.set_cons_zero, List.set_cons_succ]
  have hH := HS1.out
  refine stepH_run 9 20 (.slice a2 nR c2) (W2) rfl (by kernel_rfl) (by kernel_rfl) (by kernel_rfl) (exec_append (s := .const (.slice none 0 0)) (x := .tmp 19) (by kernel_rfl) (by kernel_rfl) (by kernel_rfl) HA2.out) HS2.out ?_
  simp only [List.setIfInBounds_toArray, List.set_cons_zero, List.set_cons_succ]
  have hH := HS2.out
  refine takeH 10 21 (.agg #[.slice a1 nH c1, .slice a2 nR c2]) rfl (by kernel_rfl) (by kernel_rfl) (by kernel_rfl) (by kernel_rfl) (fun _ _ _ h => h) (by kernel_rfl) (fun w hw => by go_simp) hH ?_
  simp only [List.setIfInBounds_toArray, List.set_cons_zero, List.set_cons_succ]
  refine stepH_run 11 22 (.pointer (some ⟨W2.heap.size, 0, none⟩)) (W2.alloc (.cells #[.slice a1 nH c1, .slice a2 nR c2] 29)) rfl (by kernel_rfl) (by kernel_rfl) (by kernel_rfl) (by go_simp) HS3.out ?_
  simp only [List.setIfInBounds_toArray, List.set_cons_zero, List.set_cons_succ]
  have hH := HS3.out
  refine stepH 12 3 (.pointer (some ⟨W2.heap.size, 0, none⟩)) rfl (by kernel_rfl) (by kernel_rfl) (by kernel_rfl) (by kernel_rfl) hH ?_
  simp only [List.setIfInBounds_toArray, List.set_cons_zero, List.set_cons_succ]
  refine wpAnyH_done (by kernel_rfl) ?_ _
  generalize W2.alloc (.cells #[.slice a1 nH c1, .slice a2 nR c2] 29) = W3 at HSK ⊢
  generalize W2.heap.size = cb at HSK ⊢
  clear hH HS1 HS2 HS3 HA1 HA2
  go_wp2
  go_loopw [4, 5, 6, 7, 8] (fun av _ _ _ _ wr => ∃ (ag : Bool) (R' : Rf) (A' : Ta), av = .bool ag ∧ Hid (Sk w wr cb A N R' A' ∧ (ag = false → ∀ l ∈ R'.held, (R'.waits l.th).isSome = true))) (fun av _ _ _ _ wr => 2 * totAt wr cb + agN av)
  case atStart => exact ⟨true, R, A, rfl, Hid.mk ⟨HSK.out, fun q => by cases q⟩⟩
  case round =>
    obtain ⟨ag, R', A', rfl, HI⟩ := hrel
    clear HSK
    cases ag with
    | true =>
      have HS0 := Hid.mk HI.out.1
      obtain ⟨T0, hT0⟩ : ∃ T, T = totAt wr cb := ⟨_, rfl⟩
      have HT0 : Hid (T0 = totAt wr cb ∧ T0 = R'.held.length + R'.row.length) := Hid.mk ⟨hT0, by rw [hT0]; exact tot_at HI.out.1.at'⟩
      obtain ⟨n, hn⟩ : ∃ n, R'.held.length = n := ⟨_, rfl⟩
      have HN := Hid.mk hn
      have hlen : n ≤ 400000 := by have := HI.out.1.len; omega
      clear HI hT0 hn
      go_wp2
      go_loopw [4, 5, 6, 7, 8] (fun av iv _ _ _ wr => ∃ k : Nat, av = .bool false ∧ iv = .int .i64 k ∧ Hid (Sk w wr cb A N R' A' ∧ k ≤ n ∧ ∀ j, j < k → (R'.waits (R'.held.getD j Lk.zero).th).isSome = true)) (fun _ iv _ _ _ _ => n - (Go.RowKit.intOf iv).toNat)
      case atStart => exact ⟨0, rfl, rfl, Hid.mk ⟨HS0.out, Nat.zero_le _, fun j hj => by omega⟩⟩
      case round =>
        obtain ⟨k, rfl, rfl, HK⟩ := hrel
        clear HS0
        obtain ⟨⟨ao, c, d0, hS⟩, _⟩ := sk_row HK.out.1
        rw [HN.out] at d0 hS
        have HS := Hid.mk hS
        clear hS
        by_cases hkl : (k : Int) < (n : Int)
        · have v1 : IntKind.i64.wrap ((k : Int) + 1) = ((k + 1 : Nat) : Int) := by rw [IntKind.wrap_i64]; omega
          have HKL : Hid (k < n ∧ k < R'.held.length) := Hid.mk (by have := HN.out; omega)
          obtain ⟨gg, off, rfl, _, d1, d2, d3⟩ := sl_at HS.out HKL.out.1
          have e8 : (⟨gg, off, none⟩ : Addr).add (k * 3) = ⟨gg, off + k * 3, none⟩ := by rw [add_at]
          obtain ⟨l, hl⟩ : ∃ l, l = R'.held.getD k Lk.zero := ⟨_, rfl⟩
          rw [← hl] at d1 d2 d3
          have HLM : Hid (l ∈ R'.held ∧ l = R'.held.getD k Lk.zero) := Hid.mk ⟨by rw [hl]; exact mem_getL HKL.out.2, hl⟩
          clear hl
          obtain ⟨b, hb⟩ : ∃ b, b = wr.heap.size := ⟨_, rfl⟩
          obtain ⟨W1, hW1⟩ : ∃ W1, W1 = wr.alloc (.cells #[.int .i64 l.th, .int .i64 l.tg, .bool l.al] 31) := ⟨_, rfl⟩
          have HB1 : Hid (Below wr.heap.size wr W1) := Hid.mk (by rw [hW1]; exact (Below.refl _ wr).alloc (Nat.le_refl _) _)
          have HK1 := Hid.mk (HK.out.1.below HB1.out)
          have HBX : Hid (∀ W, Below W1.heap.size W1 W → W.heap[b]? = some (lkO l)) := Hid.mk (fun W hB => by
            have e : W1.heap[b]? = some (lkO l) := by rw [hW1, hb]; exact blk_new wr _
            exact (hB.block b (lt_of_block e)).trans e)
          obtain ⟨z, hz⟩ : ∃ z, z = (R'.waits l.th).isSome := ⟨_, rfl⟩
          obtain ⟨y, hy⟩ : ∃ y, y = (R'.waits l.th).getD Lk.zero := ⟨_, rfl⟩
          have HW := Hid.mk (rwaits_any HK1.out.at' l.th)
          rw [← hz, ← hy] at HW
          have HZ := Hid.mk hz
          unfold lkV at HW
          clear hz hy
          go_upto_region 9 with fail
          rw [← hW1, ← hb]
          clear hW1 hb d0 d1 d2 d3
          obtain ⟨k0, k1, k2⟩ := box_at (HBX.out W1 (Below.refl _ _))
          have ARM : Hid (∀ w2 o, Below W1.heap.size W1 w2 → Below W1.heap.size W1 (w2.alloc o)) := Hid.mk (fun w2 o h => h.alloc h.size o)
          cases z with
          | true =>
            go_wp2_with (first
              | (go_at_call 17; refine HW.out.mono ?_; rintro e w2 ⟨rfl, H2⟩; have HB2 := Hid.mk (ARM.out w2 (.cells #[.int .i64 y.th, .int .i64 y.tg, .bool y.al] 31) H2); clear H2 HW)
              | go_in)
            go_roundw
            case rel =>
              refine ⟨k + 1, rfl, rfl, Hid.mk ⟨HK1.out.below HB2.out, HKL.out.1, fun j hj => ?_⟩⟩
              rcases Nat.lt_or_ge j k with q | q
              · exact HK.out.2.2 j q
              · obtain rfl : j = k := by omega
                rw [← HLM.out.2]
                exact HZ.out.symm
            case measure => (have := HKL.out.1; simp [Go.RowKit.intOf]; omega)
          | false =>
            have HR : Hid (∀ W, Below W1.heap.size W1 W → Calls Try.prog 15 #[ptV cb, .int .i64 l.th, .int .i64 l.tg] W fun e W' => ∃ ao n c', e = .returned (.slice ao n c') ∧ Hid (Sk w W' cb A N (R'.rel l.th l.tg) (A'.rel l.th l.tg) ∧ totAt W' cb < T0)) := Hid.mk (fun W hB => by
              have hs := HK1.out.below hB
              have := tot_at hs.at'
              rw [HT0.out.2, ← this]
              exact sk_rel hs hM HLM.out.1 (by have := HZ.out; cases hw : R'.waits l.th with | none => rfl | some m => rw [hw] at this; cases this))
            go_wp2_with (first
              | (go_at_call 17; refine HW.out.mono ?_; rintro e w2 ⟨rfl, H2⟩; have HB2 := Hid.mk (ARM.out w2 (.cells #[.int .i64 y.th, .int .i64 y.tg, .bool y.al] 31) H2); obtain ⟨k3, k4, k5⟩ := box_at (HBX.out _ HB2.out); clear H2 HW)
              | (go_at_call 15; refine (HR.out _ HB2.out).mono ?_; rintro e w3 ⟨ao3, n3, c3, rfl, H3⟩; clear HR)
              | go_in)
            go_roundw
            case rel => exact ⟨true, _, _, rfl, Hid.mk ⟨H3.out.1, fun q => by cases q⟩⟩
            case measure => (have h1 := H3.out.2; have h2 := HT0.out.1; simp only [agN]; omega)
        · have HF : Hid (∀ l ∈ R'.held, (R'.waits l.th).isSome = true) := Hid.mk (fun l hl => by
            obtain ⟨j, hj, e⟩ := List.getElem_of_mem hl
            have := HK.out.2.2 j (by have := HN.out; omega)
            rw [List.getD, List.getElem?_eq_getElem hj] at this
            rw [← e]
            exact this)
          have HT1 : Hid (totAt wr cb = T0) := Hid.mk (by rw [tot_at HK.out.1.at']; exact HT0.out.2.symm)
          have HS1 := Hid.mk HK.out.1
          clear HK
          go_wp2
          go_roundw
          case rel => exact ⟨false, R', A', rfl, Hid.mk ⟨HS1.out, fun _ => HF.out⟩⟩
          case measure => (have h1 := HT1.out; have h2 := HT0.out.1; simp only [agN]; omega)
    | false =>
      have HD : Hid (A'.Done) := Hid.mk (eqv_done HI.out.1.ok HI.out.1.eqv (HI.out.2 rfl))
      have HS0 := Hid.mk HI.out.1
      obtain ⟨n, hn⟩ : ∃ n, R'.row.length = n := ⟨_, rfl⟩
      have HN := Hid.mk hn
      have hlen : n ≤ 400000 := by have := HI.out.1.len; omega
      clear HI hn
      go_wp2
      go_loopw [9, 10] (fun ov kv wr => ∃ k : Nat, kv = .int .i64 k ∧ Hid (Sk w wr cb A N R' A' ∧ k ≤ n ∧ wr.ownsRow w.heap.size 3 1 ov (insL (R'.row.take k)).length (Iy (insL (R'.row.take k))))) (fun _ kv _ => n - (Go.RowKit.intOf kv).toNat)
      case atStart => exact ⟨0, rfl, Hid.mk ⟨HS0.out, Nat.zero_le _, World.ownsRow_nil _ _ _ _⟩⟩
      case round =>
        obtain ⟨k, rfl, HK⟩ := hrel
        clear HS0
        obtain ⟨_, ao, c, d0, hS⟩ := sk_row HK.out.1
        rw [HN.out] at d0 hS
        have HS := Hid.mk hS
        clear hS
        by_cases hkl : (k : Int) < (n : Int)
        · have v1 : IntKind.i64.wrap ((k : Int) + 1) = ((k + 1 : Nat) : Int) := by rw [IntKind.wrap_i64]; omega
          have HKL : Hid (k < n ∧ k < R'.row.length) := Hid.mk (by have := HN.out; omega)
          obtain ⟨gg, off, rfl, _, d1, d2, d3⟩ := sl_at HS.out HKL.out.1
          have e8 : (⟨gg, off, none⟩ : Addr).add (k * 3) = ⟨gg, off + k * 3, none⟩ := by rw [add_at]
          have HE := Hid.mk (ins_take HKL.out.2)
          have HP := Hid.mk (put_any HK.out.2.2 HK.out.1.bel.size (R'.row.getD k Lk.zero).th (by
            have h1 := insL_len (R'.row.take k)
            rw [List.length_take] at h1
            have := HN.out
            omega))
          generalize (R'.row.getD k Lk.zero).th = th at *
          clear d2 d3
          go_wp2_with (first
            | (go_at_call 37; refine HP.out.mono ?_; rintro e w1 ⟨v1', rfl, H1⟩; clear HP)
            | go_in)
          go_roundw
          case rel => exact ⟨k + 1, rfl, Hid.mk ⟨HK.out.1.below H1.out.2, HKL.out.1, by rw [HE.out]; exact H1.out.1⟩⟩
          case measure => (have := HKL.out.1; simp [Go.RowKit.intOf]; omega)
        · have HF : Hid (∃ R' A', wr.ownsRow w.heap.size 3 1 u9 (insL R'.row).length (Iy (insL R'.row)) ∧ Eqv R' A' ∧ A'.Ok ∧ Run A A' ∧ A'.Done ∧ Below w.heap.size w wr ∧ (insL R'.row).length ≤ N) := Hid.mk (by
            have := HK.out
            rw [List.take_of_length_le (by have := HN.out; omega)] at this
            exact ⟨R', A', this.2.2, this.1.eqv, this.1.ok, this.1.run, HD.out, this.1.bel, by have q := insL_len R'.row; have := this.1.len; omega⟩)
          go_wp2
          go_ret
          exact ⟨_, rfl, Hid.mk (by obtain ⟨R2, A2, q1, q2⟩ := HF.out; exact ⟨R2, q1, A2, q2⟩)⟩
end Go.Proofs.Ytoediflikoedaaa
