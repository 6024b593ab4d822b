/-
  The law LocksOrder.
-/
import Derived.Test.YtoediflikoedaaaLkOrder
import Derived.Test.YtoediflikoedaaaLkFirstW
namespace Go.Proofs.Ytoediflikoedaaa
open Go Go.Proofs Go.RowKit Go.Shelf
attribute [local go_sem] Oper.semAt_some
def lastF (ys : List Int) (x : Int) : Int := if 0 ≤ x ∧ x < ys.length then ys.getD x.toNat 0 else 0
theorem lastF_set (ys : List Int) {k : Nat} (hk : k < ys.length) (v : Int) : lastF (ys.set k v) = fun x => if x = (k : Int) then v else lastF ys x := by
  funext x
  unfold lastF
  rw [List.length_set]
  by_cases e : x = (k : Int)
  · subst e
    rw [if_pos (by omega), if_pos rfl]
    simp [List.getD, hk]
  · rw [if_neg e]
    by_cases q : 0 ≤ x ∧ x < ys.length
    · rw [if_pos q, if_pos q]
      have : k ≠ x.toNat := by omega
      simp [List.getD, List.getElem?_set_ne this]
    · rw [if_neg q, if_neg q]
theorem lastF_zero (n : Nat) : lastF (zeros n) = fun _ => 0 := by
  funext x
  unfold lastF
  split
  · unfold zeros
    rw [List.getD, List.getElem?_replicate]
    split <;> rfl
  · rfl
theorem bel3 {w0 w3 : World} (h : Below w0.heap.size w0 w3) (o : Obj) (m : Nat) : Below w0.heap.size w0 ((w3.alloc o).drewN m) := (h.alloc h.size o).trans (below_drewN' _ _ _ (Nat.le_trans h.size (by simp)))
/-- The table, and the row of what each thread asked for last. -/
def OrO (w W : World) (t N g T : Nat) (ys : List Int) (A : Ta) : Prop := LkO (fun k => k = g) w W t A N ∧ Ord (lastF ys) A ∧ QAt W g ys ∧ ys.length = T ∧ w.heap.size ≤ g
theorem OrO.grow {w W W' : World} {t N g T : Nat} {ys : List Int} {A : Ta} (h : OrO w W t N g T ys A) (hB : Below W.heap.size W W') : OrO w W' t N g T ys A := ⟨h.1.grow hB, h.2.1, h.2.2.1.below hB h.2.2.1.lt, h.2.2.2⟩
theorem or_cell {w W : World} {t N g T : Nat} {ys : List Int} {A : Ta} (h : OrO w W t N g T ys A) {k : Nat} (hk : k < T) : W.cell? ⟨g, k, none⟩ = some (.int .i64 (ys.getD k 0)) ∧ W.frozen? ⟨g, k, none⟩ = false := by
  refine ⟨?_, blk_free h.2.2.1 k⟩
  rw [blk_cell h.2.2.1]
  have := Iy_get ys k (by rw [h.2.2.2.1]; exact hk)
  simpa using this
theorem or_set {w W : World} {t N g T : Nat} {ys : List Int} {A : Ta} (h1 : LkO (fun k => k = g) w W t A N) (h2 : QAt W g ys) (h3 : ys.length = T) (h4 : w.heap.size ≤ g) (k : Nat) (v : Int) (hO : Ord (lastF (ys.set k v)) A) : OrO w (W.setCell ⟨g, k, none⟩ (.int .i64 v)) t N g T (ys.set k v) A := by
  refine ⟨h1.side ((Only.refl (fun j => j = g) W).setCell (p := ⟨g, k, none⟩) (.inl rfl) _) (fun j hj => ⟨hj, by rw [hj]; exact h4⟩) (fun j hj => ⟨by simp; rw [hj]; exact h2.lt, .inl hj⟩), hO, ?_, by rw [List.length_set]; exact h3, h4⟩
  unfold QAt
  rw [blk_set h2, Iy_setArr]
set_option maxRecDepth 100000 in
set_option maxHeartbeats 8000000 in
theorem order_any (w : World) (a : Option Addr) (n c : Nat) (xs : List Int) (b : Int) (hl : LAt w a n xs) (hw : ∀ x ∈ xs, (Lit.int .i64 x).wf = true) (hn : n ≤ 9223372036854775807) : Calls Try.prog 5 #[.slice a n c, .int .i64 b] w fun e w' => e = .returned (.bool true) ∧ Below w.heap.size w w' := by
  have HAL := Hid.mk (alive_any w)
  by_cases h100 : (100 : Int) < (n : Int)
  · clear hl hw
    go_enter Try.func5, Try.ntmps5
    go_wp2_with (go_at_call 9; refine HAL.out.mono ?_; rintro e w1 ⟨rfl, hb1⟩; have HB1 := Hid.mk hb1; clear hb1 HAL)
    go_ret
    exact ⟨rfl, HB1.out⟩
  by_cases hb1 : b < 1
  · clear hl hw
    go_enter Try.func5, Try.ntmps5
    go_wp2_with (go_at_call 9; refine HAL.out.mono ?_; rintro e w1 ⟨rfl, hb1⟩; have HB1 := Hid.mk hb1; clear hb1 HAL)
    go_ret
    exact ⟨rfl, HB1.out⟩
  by_cases hb2 : 20 < b
  · clear hl hw
    go_enter Try.func5, Try.ntmps5
    go_wp2_with (go_at_call 9; refine HAL.out.mono ?_; rintro e w1 ⟨rfl, hb1⟩; have HB1 := Hid.mk hb1; clear hb1 HAL)
    go_ret
    exact ⟨rfl, HB1.out⟩
  obtain ⟨T, rfl⟩ : ∃ T : Nat, b = T := ⟨b.toNat, by omega⟩
  have HX : Hid (xs.length = n ∧ n ≤ 100 ∧ (∀ x ∈ xs, (Lit.int .i64 x).wf = true) ∧ 1 ≤ T ∧ T ≤ 20) := Hid.mk ⟨hl.1, by omega, hw, by omega, by omega⟩
  have HL : Hid (∀ W, Below w.heap.size w W → LAt W a n xs) := Hid.mk (fun W hB => hl.next hB)
  have HNEW : Hid (∀ W, Below w.heap.size w W → Calls Try.prog 10 #[] W fun e W' => ∃ t, e = .returned (ptV t) ∧ Hid (OrO w (W'.alloc (.cells (Iy (zeros T)).toArray 3)) t 0 W'.heap.size T (zeros T) Ta.none)) := Hid.mk (fun W hB => (o_new hB).mono (by
    rintro e W' ⟨t, rfl, HQ⟩
    refine ⟨t, rfl, Hid.mk ⟨HQ.out.side ((Only.refl (fun _ => False) W').alloc _) (fun _ q => q.elim) (fun k hk => ⟨by rw [hk]; simp, .inr (by rw [hk]; exact Nat.le_refl _)⟩), by rw [lastF_zero]; exact ord_none, blk_new W' _, by simp [zeros], HQ.out.bel.size⟩⟩))
  have hmk := makei_run
  have hT : T ≤ 16777216 := by omega
  have hn0 : ¬ (T : Int) = 0 := by omega
  clear hl hw hn
  go_enter Try.func5, Try.ntmps5
  go_wp2_with (first
    | (go_at_call 9; refine HAL.out.mono ?_; rintro e w1 ⟨rfl, hb1⟩; have HB1 := Hid.mk hb1; clear hb1 HAL)
    | (go_at_call 10; refine (HNEW.out _ HB1.out).mono ?_; rintro e w2 ⟨t, rfl, H2⟩; have hmk2 := hmk w2 T hT; clear HNEW HB1 hmk hT)
    | go_in)
  obtain ⟨g, hg⟩ : ∃ g, g = w2.heap.size := ⟨_, rfl⟩
  rw [← hg] at H2 ⊢
  clear hg hmk2
  go_loopw [8, 9, 10, 11] (fun iv _ _ _ wr => ∃ i : Nat, iv = .int .i64 i ∧ Hid (i ≤ n ∧ ∃ N ys A, N ≤ i ∧ OrO w wr t N g T ys A)) (fun iv _ _ _ _ => n - (Go.RowKit.intOf iv).toNat)
  case atStart => exact ⟨0, rfl, Hid.mk ⟨Nat.zero_le _, 0, _, _, Nat.le_refl _, H2.out⟩⟩
  case round =>
    obtain ⟨i, rfl, HI⟩ := hrel
    clear H2
    obtain ⟨hin, N, ys, A, hNi, HO⟩ := HI.out
    clear HI
    by_cases hlt : (i : Int) < (n : Int)
    · have u1 : IntKind.i64.wrap ((i : Int) + 1) = ((i + 1 : Nat) : Int) := by have := HX.out; rw [IntKind.wrap_i64]; omega
      have HLT : Hid (i < n) := Hid.mk (by omega)
      obtain ⟨k, hk⟩ : ∃ k : Nat, k = i % T := ⟨_, rfl⟩
      have hkT : k < T := by rw [hk]; exact Nat.mod_lt _ (by have := HX.out; omega)
      have u2 : Int.tmod (i : Int) (T : Int) = (k : Int) := by rw [Int.tmod_eq_emod_of_nonneg (by omega), hk]; omega
      have hkw : (Lit.int .i64 (k : Int)).wf = true := wf_of (by have := HX.out; omega)
      have HWT := o_waits HO.1 k hkw
      have HGR : Hid (∀ W, Below wr.heap.size wr W → OrO w W t N g T ys A ∧ Below w.heap.size w W) := Hid.mk (fun W hB => ⟨HO.grow hB, (HO.grow hB).1.bel⟩)
      cases hwk : A.waits k with
      | some l =>
        rw [hwk] at HWT
        simp only [Option.getD_some, Option.isSome_some] at HWT
        have HWX := Hid.mk HWT
        have HF : Hid (∀ W, Below wr.heap.size wr W → i + 1 ≤ n ∧ ∃ N ys A, N ≤ i + 1 ∧ OrO w W t N g T ys A) := Hid.mk (fun W hB => ⟨HLT.out, N, ys, A, by omega, (HGR.out W hB).1⟩)
        clear HWT HO hwk hk
        unfold lkV at *
        go_wp2_with (first
          | (go_at_call 16; refine HWX.out.mono ?_; rintro e w3 ⟨rfl, H3⟩; have HB3 := Hid.mk H3.out.2; clear HWX H3)
          | go_in)
        go_quiet (fail)
        go_wp2
        go_roundw
        case rel => exact ⟨i + 1, rfl, Hid.mk (HF.out _ (bel3 HB3.out _ _))⟩
        case measure => (have := HLT.out; simp [Go.RowKit.intOf]; omega)
      | none =>
        rw [hwk] at HWT
        simp only [Option.getD_none, Option.isSome_none] at HWT
        have HWX := Hid.mk HWT
        obtain ⟨a', rfl, _⟩ := (HL.out wr HO.1.bel).at i HLT.out
        have HC : Hid (∀ W, Below wr.heap.size wr W → W.cell? (a'.add i) = some (.int .i64 (xs.getD i 0)) ∧ W.cell? ⟨g, k, none⟩ = some (.int .i64 (ys.getD k 0))) := Hid.mk (fun W hB => by
          obtain ⟨h1, h2⟩ := HGR.out W hB
          obtain ⟨a2, ea, c2⟩ := (HL.out W h2).at i HLT.out
          cases ea
          exact ⟨c2, (or_cell h1 hkT).1⟩)
        have hgl : g < wr.heap.size := HO.2.2.1.lt
        have HF : Hid (∀ W, Below wr.heap.size wr W → i + 1 ≤ n ∧ ∃ N ys A, N ≤ i + 1 ∧ OrO w W t N g T ys A) := Hid.mk (fun W hB => ⟨HLT.out, N, ys, A, by omega, (HGR.out W hB).1⟩)
        have HASK : Hid (ys.getD k 0 < xs.getD i 0 → ∀ W (al : Bool), Below wr.heap.size wr W → Calls Try.prog 11 #[ptV t, .agg #[.int .i64 (k : Int), .int .i64 (xs.getD i 0), .bool al]] W fun e W' => e = .returned (.bool (A.askB ⟨k, xs.getD i 0, al⟩)) ∧ W'.cell? (a'.add i) = some (.int .i64 (xs.getD i 0)) ∧ W'.cell? ⟨g, k, none⟩ = some (.int .i64 (ys.getD k 0)) ∧ W'.frozen? ⟨g, k, none⟩ = false ∧ Hid (i + 1 ≤ n ∧ ∃ N ys A, N ≤ i + 1 ∧ OrO w (W'.setCell ⟨g, k, none⟩ (.int .i64 (xs.getD i 0))) t N g T ys A)) := Hid.mk (fun hv W al hB => by
          have hx := HX.out
          obtain ⟨h1, h2⟩ := HGR.out W hB
          refine (o_ask h1.1 ⟨k, xs.getD i 0, al⟩ ⟨hkw, wf_get hx.2.2.1 (by have := HLT.out; omega)⟩ (by omega)).mono ?_
          rintro e W' ⟨rfl, HQ⟩
          have hq : QAt W' g ys := (HQ.out.2 g rfl).trans h1.2.2.1
          obtain ⟨a2, ea, c2⟩ := (HL.out W' HQ.out.1.bel).at i HLT.out
          cases ea
          have hlk : lastF ys (k : Int) = ys.getD k 0 := by
            unfold lastF
            rw [if_pos (by have := h1.2.2.2.1; omega)]
            simp
          have hO := ord_ask h1.2.1 (l := ⟨k, xs.getD i 0, al⟩) hwk (by show lastF ys (k : Int) < xs.getD i 0; rw [hlk]; exact hv)
          refine ⟨rfl, c2, ?_, blk_free hq k, Hid.mk ⟨HLT.out, N + 1, _, _, by omega, or_set HQ.out.1 hq h1.2.2.2.1 h1.2.2.2.2 k (xs.getD i 0) ?_⟩⟩
          · rw [blk_cell hq]
            have := Iy_get ys k (by have := h1.2.2.2.1; omega)
            simpa using this
          · rw [lastF_set ys (by have := h1.2.2.2.1; omega)]
            exact hO)
        have e9 : (⟨g, 0, none⟩ : Addr).add (k * 1) = ⟨g, k, none⟩ := by rw [add_at]; simp
        have g1 : (k : Int) < (T : Int) := by omega
        clear HWT HO hk
        obtain ⟨x, hx⟩ : ∃ x, x = xs.getD i 0 := ⟨_, rfl⟩
        obtain ⟨y, hy⟩ : ∃ y, y = ys.getD k 0 := ⟨_, rfl⟩
        rw [← hx, ← hy] at HC HASK
        clear hx hy hwk
        by_cases hle : x ≤ y
        · have hd : decide (x ≤ y) = true := decide_eq_true hle
          clear HASK
          unfold lkV Lk.zero at *
          go_wp2_with (first
            | (go_at_call 16; refine HWX.out.mono ?_; rintro e w3 ⟨rfl, H3⟩; have HB3 := Hid.mk H3.out.2; obtain ⟨d1, d2⟩ := HC.out _ (HB3.out.alloc HB3.out.size (lkO Lk.zero)); clear HWX H3)
            | go_in)
          unfold lkO Lk.zero at d1 d2
          go_quiet (fail)
          go_wp2
          go_roundw
          case rel => exact ⟨i + 1, rfl, Hid.mk (HF.out _ (bel3 HB3.out _ _))⟩
          case measure => (have := HLT.out; simp [Go.RowKit.intOf]; omega)
        · have hd : decide (x ≤ y) = false := decide_eq_false hle
          by_cases hbig : 1000 < x
          · have hd2 : decide (1000 < x) = true := decide_eq_true hbig
            clear HASK
            unfold lkV Lk.zero at *
            go_wp2_with (first
              | (go_at_call 16; refine HWX.out.mono ?_; rintro e w3 ⟨rfl, H3⟩; have HB3 := Hid.mk H3.out.2; obtain ⟨d1, d2⟩ := HC.out _ (HB3.out.alloc HB3.out.size (lkO Lk.zero)); clear HWX H3)
              | go_in)
            unfold lkO Lk.zero at d1 d2
            go_quiet (fail)
            go_wp2
            go_roundw
            case rel => exact ⟨i + 1, rfl, Hid.mk (HF.out _ (bel3 HB3.out _ _))⟩
            case measure => (have := HLT.out; simp [Go.RowKit.intOf]; omega)
          · have hd2 : decide (1000 < x) = false := decide_eq_false hbig
            have HA := Hid.mk (HASK.out (by omega))
            clear HASK
            unfold lkV Lk.zero at *
            go_wp2_with (first
              | (go_at_call 16; refine HWX.out.mono ?_; rintro e w3 ⟨rfl, H3⟩; have HB3 := Hid.mk H3.out.2; obtain ⟨d1, d2⟩ := HC.out _ (HB3.out.alloc HB3.out.size (lkO Lk.zero)); clear HWX H3)
              | go_in)
            unfold lkO Lk.zero at d1 d2
            go_quiet (fail)
            go_wp2_with (first
              | (go_at_call 11; refine (HA.out _ _ (bel3 HB3.out _ _)).mono ?_; rintro e w6 ⟨rfl, f1, f2, f3, H6⟩; clear HA)
              | go_in)
            go_roundw
            case rel => exact ⟨i + 1, rfl, H6⟩
            case measure => (have := HLT.out; simp [Go.RowKit.intOf]; omega)
    · obtain rfl : i = n := by omega
      have HSK : Hid (Calls Try.prog 23 #[ptV t] wr fun e W' => ∃ ao c, e = .returned (.slice ao 0 c) ∧ Below w.heap.size w W') := Hid.mk (by
        refine (o_stuck2 HO.1 (by have := HX.out; omega)).mono ?_
        rintro e W' ⟨ao, m, c, rfl, HQ⟩
        obtain ⟨L, A', rfl, a1, a2, a3, a4, a5, a6, a7⟩ := HQ.out
        obtain rfl := ro_free HO.1.ok HO.2.1.ro a1 a2 a4
        exact ⟨ao, c, rfl, a6.bel⟩)
      clear HO HL
      go_wp2_with (first
        | (go_at_call 23; refine HSK.out.mono ?_; rintro e w3 ⟨ao3, c3, rfl, hB3⟩; have HB3 := Hid.mk hB3; clear hB3 HSK)
        | go_in)
      go_ret
      exact ⟨rfl, HB3.out⟩
end Go.Proofs.Ytoediflikoedaaa
