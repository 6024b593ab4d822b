/-
  The law LocksPlay.
-/
import Derived.Test.YtoediflikoedaaaLkPy
namespace Go.Proofs.Ytoediflikoedaaa
open Go Go.Proofs Go.RowKit Go.Shelf
attribute [local go_sem] Oper.semAt_some
theorem wf_wrap (x : Int) : (Lit.int .i64 (IntKind.i64.wrap x)).wf = true := by
  have e1 : IntKind.i64.min = -9223372036854775808 := by decide
  have e2 : IntKind.i64.max = 9223372036854775807 := by decide
  rw [IntKind.wrap_i64]
  simp [Lit.wf, e1, e2]
  omega
/-- Who holds, as a row that may be written. -/
def HrAt (W : World) (ao : Option Addr) (n : Nat) : Prop := 0 < n → ∃ g, ao = some ⟨g, 0, none⟩ ∧ ∃ cur, W.heap[g]? = some (.cells cur 3 (0, 0)) ∧ n ≤ cur.size
theorem hr_of {W : World} {base n c : Nat} {ao : Option Addr} {xs : List Value} (h : W.ownsRow base 3 1 (.slice ao n c) n xs) : HrAt W ao n ∧ ∀ k, (Value.slice ao n c).ownBlock = some k → base ≤ k ∧ k < W.heap.size := by
  rcases h.2 with ⟨e, rfl⟩ | ⟨g, cap, cur, e, hg, hw, h1, _, h2, _⟩
  · cases e
    exact ⟨fun q => by omega, fun k q => by cases q⟩
  · cases e
    exact ⟨fun _ => ⟨g, rfl, cur, hw, by omega⟩, fun k q => by cases q; exact ⟨hg, lt_of_block hw⟩⟩
theorem hr_keep {W W' : World} {n : Nat} {ao : Option Addr} (h : HrAt W ao n) (hB : Below W.heap.size W W') : HrAt W' ao n := fun q => by
  obtain ⟨g, e, cur, hw, hl⟩ := h q
  exact ⟨g, e, cur, (hB.block g (lt_of_block hw)).trans hw, hl⟩
theorem hr_cell {W : World} {n k : Nat} {ao : Option Addr} (h : HrAt W ao n) (hk : k < n) : ∃ g u, ao = some ⟨g, 0, none⟩ ∧ W.cell? ⟨g, k, none⟩ = some u ∧ W.frozen? ⟨g, k, none⟩ = false ∧ ∀ v, HrAt (W.setCell ⟨g, k, none⟩ v) (some ⟨g, 0, none⟩) n := by
  obtain ⟨g, rfl, cur, h2, h3⟩ := h (by omega)
  refine ⟨g, cur[k], rfl, ?_, blk_free h2 k, fun v _ => ⟨g, rfl, _, blk_set h2, by simpa using h3⟩⟩
  rw [blk_cell h2]
  exact Array.getElem?_eq_getElem (by omega)
/-- What holds between two calls. -/
structure Ev (A : Ta) (R : Rf) (i : Nat) : Prop where
  eqv : Eqv R A
  blk : A.Blk
  len : R.held.length + R.row.length ≤ i
theorem ev_ask {A : Ta} {R : Rf} {i : Nat} (h : Ev A R i) (hA : A.Ok) (l : Lk) : A.askB l = R.askB l ∧ Ev (A.ask l) (R.ask l) (i + 1) := by
  obtain ⟨a1, a2⟩ := eqv_ask hA h.eqv l
  refine ⟨a1, a2, blk_ask hA h.blk l, ?_⟩
  have := h.len
  unfold Rf.ask
  split
  · omega
  · split <;> (simp; omega)
theorem ev_rel {A : Ta} {R : Rf} {i : Nat} (h : Ev A R i) (p x : Int) : A.relL p x = R.relL p x ∧ Ev (A.rel p x) (R.rel p x) (i + 1) := by
  obtain ⟨a1, a2⟩ := eqv_rel h.eqv p x
  refine ⟨a1, a2, blk_rel h.blk p x, ?_⟩
  have := h.len
  cases hh : hasB R.held p x with
  | true => have := rel_lt hh; omega
  | false =>
    unfold Rf.rel
    rw [hh]
    simp
    omega
theorem ev_stuck {A A1 A2 : Ta} {R R' : Rf} {i : Nat} {L : List Int} (h : Ev A R i) (hA : A.Ok) (s : Steps A.waited A1) (h1 : A1.Done) (hk : KeyL (intF lkV A1.waits) L) (he : Eqv R' A2) (h2 : A2.Ok) (hr : Run A A2) (hd : A2.Done) : L = insL R'.row := by
  obtain ⟨k1, k2⟩ := eqv_keys h2 he
  refine rise_ext hk.1.1 k1 (fun x => ?_)
  rw [k2 x, stuck_same hA h.blk s h1 hr hd x]
  have := hk.2 x
  rw [intF_int, Option.isSome_map] at this
  rw [this]
  simp
/-- A lock in its box. -/
def Bx (b : Nat) (l : Lk) (W : World) : Prop := W.heap[b]? = some (lkO l)
theorem bx_cells {b : Nat} {th tg : Int} {al : Bool} {W : World} (h : Bx b ⟨th, tg, al⟩ W) : W.cell? ⟨b, 0, none⟩ = some (.int .i64 th) ∧ W.cell? ⟨b, 1, none⟩ = some (.int .i64 tg) ∧ W.cell? ⟨b, 2, none⟩ = some (.bool al) := box_at h
def Sp3 (b : Nat) (th tg : Int) (al : Bool) (W : World) : Prop := W.cell? ⟨b, 0, none⟩ = some (.int .i64 th) ∧ W.cell? ⟨b, 1, none⟩ = some (.int .i64 tg) ∧ W.cell? ⟨b, 2, none⟩ = some (.bool al)
/-- Three boxes. -/
def Sp9 (b b1 b2 : Nat) (th tg : Int) (al : Bool) (za zb : Int) (zc : Bool) (W : World) : Prop := W.cell? ⟨b, 0, none⟩ = some (.int .i64 th) ∧ W.cell? ⟨b, 1, none⟩ = some (.int .i64 tg) ∧ W.cell? ⟨b, 2, none⟩ = some (.bool al) ∧ W.cell? ⟨b1, 0, none⟩ = some (.int .i64 za) ∧ W.cell? ⟨b1, 1, none⟩ = some (.int .i64 zb) ∧ W.cell? ⟨b1, 2, none⟩ = some (.bool zc) ∧ W.cell? ⟨b2, 0, none⟩ = some (.int .i64 za) ∧ W.cell? ⟨b2, 1, none⟩ = some (.int .i64 zb) ∧ W.cell? ⟨b2, 2, none⟩ = some (.bool zc)
/-- Within a round: the box of the call. -/
structure Pb (w W : World) (t o r b : Nat) (l : Lk) (A B : Ta) (R : Rf) (N M : Nat) : Prop where
  pl : Pl (fun k => k = b) w W t o r A B R N M
  bx : Bx b l W
theorem Pb.next {w W W' : World} {t o r b N M : Nat} {l : Lk} {A B : Ta} {R : Rf} (h : Pb w W t o r b l A B R N M) (hB : Below W.heap.size W W') : Pb w W' t o r b l A B R N M := ⟨h.pl.grow hB, ((hB.block b (h.pl.bx b rfl).2).trans h.bx)⟩
set_option maxRecDepth 100000 in
set_option maxHeartbeats 16000000 in
theorem play_any (w : World) (ao : Option Addr) (n cc : Nat) (V : Nat → ActV) (hV : ActsAt w ao n V) (hn : n ≤ 9223372036854775807) : Calls Try.prog 3 #[.slice ao n cc] w fun e w' => e = .returned (.bool true) ∧ Below w.heap.size w w' := by
  have HAL := Hid.mk (alive_any w)
  by_cases h200 : (200 : Int) < (n : Int)
  · clear hV
    go_enter Try.func3, Try.ntmps3
    go_wp2_with (go_at_call 9; refine HAL.out.mono ?_; rintro e w1 ⟨rfl, hb1⟩; have HB1 := Hid.mk hb1; clear hb1 HAL)
    go_ret
    exact ⟨rfl, HB1.out⟩
  have HX : Hid (n ≤ 200) := Hid.mk (by omega)
  have HV : Hid (∀ W j, Below w.heap.size w W → j < n → ∃ ab off, ao = some ⟨ab, off, none⟩ ∧ ab < w.heap.size ∧ W.cell? ⟨ab, off + j * 4, none⟩ = some (.int .i64 (V j).way) ∧ W.cell? ⟨ab, off + j * 4 + 1, none⟩ = some (.int .i64 (V j).lk.th) ∧ W.cell? ⟨ab, off + j * 4 + 2, none⟩ = some (.int .i64 (V j).lk.tg) ∧ W.cell? ⟨ab, off + j * 4 + 3, none⟩ = some (.bool (V j).lk.al) ∧ (V j).lk.wf) := Hid.mk (fun W j hB hj => acts_at hV hB hj)
  have HN1 : Hid (∀ W, Below w.heap.size w W → Calls Try.prog 10 #[] W fun e W' => ∃ t, e = .returned (ptV t) ∧ Hid (Below w.heap.size w W' ∧ w.heap.size ≤ t ∧ t < W'.heap.size ∧ W'.heap[t]? = some (.cells #[.map none, .map none, .map none] 54 (0, 0)))) := Hid.mk (fun W hB => (new_any W).mono (by
    rintro e W' ⟨rfl, rfl⟩
    exact ⟨_, rfl, Hid.mk ⟨hB.alloc hB.size _, hB.size, by simp, blk_new W _⟩⟩))
  have HN2 : Hid (∀ W t, (Below w.heap.size w W ∧ w.heap.size ≤ t ∧ t < W.heap.size ∧ W.heap[t]? = some (.cells #[.map none, .map none, .map none] 54 (0, 0))) → Calls Try.prog 10 #[] W fun e W' => ∃ o, e = .returned (ptV o) ∧ Hid (Pl (fun _ => False) w (W'.alloc (.cells #[.slice none 0 0, .slice none 0 0] 29)) t o W'.heap.size Ta.none Ta.none ⟨[], []⟩ 0 0)) := Hid.mk (fun W t hB => (new_any W).mono (by
    rintro e W' ⟨rfl, rfl⟩
    obtain ⟨h1, h2, h3, h4⟩ := hB
    have e1 : (W.alloc (.cells #[.map none, .map none, .map none] 54)).heap[t]? = some (.cells #[.map none, .map none, .map none] 54 (0, 0)) := (Below.heap_alloc _ _ _ h3).trans h4
    have e2 := blk_new W (.cells #[.map none, .map none, .map none] 54)
    have hb1 : Below w.heap.size w (W.alloc (.cells #[.map none, .map none, .map none] 54)) := h1.alloc h1.size _
    generalize hW1 : W.alloc (.cells #[.map none, .map none, .map none] 54) = W1 at *
    have hs1 : W1.heap.size = W.heap.size + 1 := by rw [← hW1]; simp
    have e3 : (W1.alloc (.cells #[.slice none 0 0, .slice none 0 0] 29)).heap[t]? = _ := (Below.heap_alloc _ _ _ (by omega)).trans e1
    have e4 : (W1.alloc (.cells #[.slice none 0 0, .slice none 0 0] 29)).heap[W.heap.size]? = _ := (Below.heap_alloc _ _ _ (by omega)).trans e2
    have e5 := blk_new W1 (.cells #[.slice none 0 0, .slice none 0 0] 29)
    have hs2 : (W1.alloc (.cells #[.slice none 0 0, .slice none 0 0] 29)).heap.size = W1.heap.size + 1 := by simp
    have hw := h1.size
    refine ⟨_, rfl, Hid.mk ⟨fun k => k = t, fun k => k = W.heap.size, fun k => k = W1.heap.size, Td.none, Td.none, ⟨TbAt.fresh rfl e3, .inl rfl, Fit.none, ok_none, TbAt.fresh rfl e4, .inl rfl, Fit.none, ok_none, ⟨_, _, e5, .inl ⟨rfl, rfl⟩, .inl ⟨rfl, rfl⟩, rfl, fun k q => (by cases q), fun k q => (by cases q), fun k q => (by cases q)⟩, ?_, ?_, ?_, ?_, ?_, ?_, ?_, hb1.alloc hb1.size _⟩, rfl, rfl⟩⟩
    · rintro k rfl; exact ⟨by omega, by omega, fun q => q⟩
    · rintro k rfl; exact ⟨by omega, fun q => q⟩
    · rintro k rfl; exact fun q => q
    · rintro k rfl; omega
    · rintro k rfl; omega
    · rintro k rfl; omega
    · intro k q; exact q.elim))
  clear hV hn
  go_enter Try.func3, Try.ntmps3
  go_upto_region 7 with (first
    | (go_at_call 9; refine HAL.out.mono ?_; rintro e w1 ⟨rfl, hb1⟩; have HB1 := Hid.mk hb1; clear hb1 HAL)
    | (go_at_call 10; refine (HN1.out _ HB1.out).mono ?_; rintro e w2 ⟨t, rfl, H2⟩; clear HN1 HB1)
    | (go_at_call 10; refine (HN2.out _ _ H2.out).mono ?_; rintro e w3 ⟨o, rfl, H3⟩; clear HN2 H2)
    | go_in)
  obtain ⟨r, hr⟩ : ∃ r, r = w3.heap.size := ⟨_, rfl⟩
  rw [← hr] at H3 ⊢
  generalize w3.alloc (.cells #[.slice none 0 0, .slice none 0 0] 29) = W3 at H3 ⊢
  clear hr
  go_wp2
  go_loopw [7, 8, 9, 10, 11, 12, 13, 14] (fun iv _ _ _ _ _ _ _ wr => ∃ i : Nat, iv = .int .i64 i ∧ Hid (i ≤ n ∧ ∃ A B R N M, N ≤ i ∧ M ≤ i ∧ Ev A R i ∧ Pl (fun _ => False) w wr t o r A B R N M)) (fun iv _ _ _ _ _ _ _ _ => n - (Go.RowKit.intOf iv).toNat)
  case atStart => exact ⟨0, rfl, Hid.mk ⟨Nat.zero_le _, _, _, _, 0, 0, Nat.le_refl _, Nat.le_refl _, ⟨eqv_none, blk_none, Nat.le_refl _⟩, H3.out⟩⟩
  case round =>
    obtain ⟨i, rfl, HI⟩ := hrel
    clear H3
    obtain ⟨hin, A, B, R, N, M, hNi, hMi, hE, hP⟩ := HI.out
    have HP0 := Hid.mk hP
    have HE0 := Hid.mk hE
    have HNI : Hid (N ≤ i ∧ M ≤ i) := Hid.mk ⟨hNi, hMi⟩
    have HB0 : Hid (Below w.heap.size w wr) := Hid.mk hP.bel
    clear HI hP hE hNi hMi
    by_cases hlt : (i : Int) < (n : Int)
    · have u1 : IntKind.i64.wrap ((i : Int) + 1) = ((i + 1 : Nat) : Int) := by have := HX.out; rw [IntKind.wrap_i64]; omega
      have HLT : Hid (i < n) := Hid.mk (by omega)
      obtain ⟨ab, off0, rfl, habl, t0, t1, t2, t3, hwf⟩ := HV.out wr i HB0.out HLT.out
      obtain ⟨wy, hwy⟩ : ∃ wy, (V i).way = wy := ⟨_, rfl⟩
      have HC : Hid (∀ W, Below w.heap.size w W → W.cell? ⟨ab, off0 + i * 4, none⟩ = some (.int .i64 wy)) := Hid.mk (fun W hB => by
        obtain ⟨ab', off', e, _, q, _⟩ := HV.out W i hB HLT.out
        cases e
        rw [← hwy]
        exact q)
      rw [hwy] at t0
      clear hwy
      obtain ⟨l, hl⟩ : ∃ l, (V i).lk = l := ⟨_, rfl⟩
      rw [hl] at t1 t2 t3 hwf
      have HWF := Hid.mk hwf
      have hP1 : Pb w (wr.alloc (lkO l)) t o r wr.heap.size l A B R N M := ⟨HP0.out.side ((Only.refl (fun _ => False) wr).alloc _) (fun _ q => q.elim) (fun k hk => .inr (by rw [hk]; simp)), blk_new wr _⟩
      obtain ⟨th, tg, al⟩ := l
      simp only at t1 t2 t3
      clear hl hwf habl HV HB0
      obtain ⟨p, hp⟩ : ∃ p, IntKind.i64.wrap (th + (i : Int)) = p := ⟨_, rfl⟩
      have HPW : Hid ((Lit.int .i64 p).wf = true) := Hid.mk (by rw [← hp]; exact wf_wrap _)
      have z1 : (0 : Int) ≤ (i : Int) := by omega
      have z2 : ((i : Int)).toNat = i := by simp
      obtain ⟨b, hb⟩ : ∃ b, b = wr.heap.size := ⟨_, rfl⟩
      obtain ⟨W1, hW1⟩ : ∃ W1, W1 = wr.alloc (.cells #[.int .i64 th, .int .i64 tg, .bool al] 31) := ⟨_, rfl⟩
      have H1 : Hid (Pb w W1 t o r b ⟨th, tg, al⟩ A B R N M) := Hid.mk (by rw [hW1, hb]; exact hP1)
      clear hP1
      go_upto_region 11 with fail
      rw [← hW1, ← hb]
      clear hW1 hb t0 t1 t2 t3 HP0
      have HOA : Hid (Calls Try.prog 11 #[ptV o, .agg #[.int .i64 p, .int .i64 tg, .bool true]] W1 fun e W' => (∃ b, e = .returned (.bool b)) ∧ Hid (Pb w W' t o r b ⟨th, tg, al⟩ A (B.ask ⟨p, tg, true⟩) R N (M + 1))) := Hid.mk (by
        refine (p_oask H1.out.pl ⟨p, tg, true⟩ ⟨HPW.out, HWF.out.2⟩ (by have := HNI.out; have := HX.out; have := HLT.out; omega)).mono ?_
        rintro e W' ⟨q1, HQ⟩
        exact ⟨q1, Hid.mk ⟨HQ.out.1, (HQ.out.2 b rfl).trans H1.out.bx⟩⟩)
      obtain ⟨k0, k1, k2⟩ := bx_cells H1.out.bx
      go_upto_if 53 with (first
        | (go_at_call 11; refine HOA.out.mono ?_; rintro e w2 ⟨⟨b2, rfl⟩, H2⟩; have t0 := HC.out w2 H2.out.pl.bel; clear HOA)
        | go_in)
      clear k0 k1 k2 H1 hp HPW
      go_cut [9] from 52 to 74 (fun _ W => Hid (∃ A' R' N', N' ≤ i + 1 ∧ Ev A' R' (i + 1) ∧ Pb w W t o r b ⟨th, tg, al⟩ A' (B.ask ⟨p, tg, true⟩) R' N' (M + 1)))
      case first =>
        have HD := Hid.mk (H2.out.next (drew_below w2))
        have hH : Sp3 b th tg al w2.drew := bx_cells HD.out.bx
        have HBX : Hid (∀ W4, Kx (fun k => k = b) w2.drew W4 → Sp3 b th tg al W4) := Hid.mk (fun W4 hk => bx_cells ((hk b rfl).trans HD.out.bx))
        have HBX2 : Hid (∀ W4 W5, Kx (fun k => k = b) w2.drew W4 → Kx (fun k => k = b) W4 W5 → Sp3 b th tg al W5) := Hid.mk (fun W4 W5 hk hk2 => bx_cells (((hk2 b rfl).trans (hk b rfl)).trans HD.out.bx))
        by_cases hw0 : wy = 0
        · subst hw0
          obtain ⟨hab, hev⟩ := ev_ask HE0.out HD.out.pl.okA ⟨th, tg, al⟩
          have HEV := Hid.mk hev
          have HASK := Hid.mk (p_ask HD.out.pl ⟨th, tg, al⟩ HWF.out (by have := HNI.out; have := HX.out; have := HLT.out; omega))
          obtain ⟨g, hg⟩ : ∃ g, g = A.askB ⟨th, tg, al⟩ := ⟨_, rfl⟩
          rw [← hg] at HASK hab
          have HRASK : Hid (∀ W4, Pl (fun k => k = b) w W4 t o r (A.ask ⟨th, tg, al⟩) (B.ask ⟨p, tg, true⟩) R (N + 1) (M + 1) → Calls Try.prog 12 #[ptV r, .agg #[.int .i64 th, .int .i64 tg, .bool al]] W4 fun e W' => e = .returned (.bool g) ∧ Hid (Pl (fun k => k = b) w W' t o r (A.ask ⟨th, tg, al⟩) (B.ask ⟨p, tg, true⟩) (R.ask ⟨th, tg, al⟩) (N + 1) (M + 1) ∧ Kx (fun k => k = b) W4 W')) := Hid.mk (fun W4 h4 => by
            have := p_rask h4 ⟨th, tg, al⟩ (by have := HE0.out.len; have := HX.out; have := HLT.out; omega)
            rw [← hab] at this
            exact this)
          unfold lkV at HASK
          simp only at HASK
          clear hab hev hg
          go_wp2
          refine wp_region_held_drew (S := Sp3 b th tg al) (by kernel_rfl) hH (fun hH => ?_)
          change wpAnyH Try.prog Region.Mode.any _ _ _ 7 _ _ _
          refine takeH 0 54 (ptV t) rfl (by kernel_rfl) (by kernel_rfl) (by kernel_rfl) (by kernel_rfl) (fun _ _ _ h => h) (by kernel_rfl) (fun w hw => by kernel_rfl) hH ?_
          simp only [List.setIfInBounds_toArray, List.set_cons_zero, List.set_cons_succ]
          refine takeH 1 55 (.agg #[.int .i64 th, .int .i64 tg, .bool al]) rfl (by kernel_rfl) (by kernel_rfl) (by kernel_rfl) (by kernel_rfl) (fun _ _ _ h => h) (by kernel_rfl) (fun w hw => by (try dsimp only at hw); obtain ⟨hw1, hw2, hw3⟩ := hw; go_simp) hH ?_
          simp only [List.setIfInBounds_toArray, List.set_cons_zero, List.set_cons_succ]
          refine takeH 3 57 (ptV r) rfl (by kernel_rfl) (by kernel_rfl) (by kernel_rfl) (by kernel_rfl) (fun _ _ _ h => h) (by kernel_rfl) (fun w hw => by kernel_rfl) hH ?_
          simp only [List.setIfInBounds_toArray, List.set_cons_zero, List.set_cons_succ]
          refine takeH 4 58 (.agg #[.int .i64 th, .int .i64 tg, .bool al]) rfl (by kernel_rfl) (by kernel_rfl) (by kernel_rfl) (by kernel_rfl) (fun _ _ _ h => h) (by kernel_rfl) (fun w hw => by (try dsimp only at hw); obtain ⟨hw1, hw2, hw3⟩ := hw; go_simp) hH ?_
          simp only [List.setIfInBounds_toArray, List.set_cons_zero, List.set_cons_succ]
          refine stepH_call 2 56 rfl (by kernel_rfl) (by kernel_rfl) (by kernel_rfl) 11 #[.tmp 54, .tmp 55] #[24, 31] (by kernel_rfl) (enters_of Try.func11 (by kernel_rfl) rfl) #[ptV t, .agg #[.int .i64 th, .int .i64 tg, .bool al]] (by kernel_rfl) HASK.out ?_
          rintro e w4 ⟨rfl, H4⟩
          have hH := (HBX.out w4 H4.out.2)
          refine ⟨_, rfl, hH, ?_⟩
          simp only [List.setIfInBounds_toArray, List.set_cons_zero, List.set_cons_succ]
          refine stepH_call 5 59 rfl (by kernel_rfl) (by kernel_rfl) (by kernel_rfl) 12 #[.tmp 57, .tmp 58] #[26, 31] (by kernel_rfl) (enters_of Try.func12 (by kernel_rfl) rfl) #[ptV r, .agg #[.int .i64 th, .int .i64 tg, .bool al]] (by kernel_rfl) (HRASK.out w4 H4.out.1) ?_
          rintro e w5 ⟨rfl, H5⟩
          have hH := (HBX2.out w4 w5 H4.out.2 H5.out.2)
          refine ⟨_, rfl, hH, ?_⟩
          simp only [List.setIfInBounds_toArray, List.set_cons_zero, List.set_cons_succ]
          refine takeH 6 60 (.bool false) rfl (by kernel_rfl) (by kernel_rfl) (by kernel_rfl) (by kernel_rfl) (fun _ _ _ h => h) (by kernel_rfl) (fun w hw => by go_simp) hH ?_
          simp only [List.setIfInBounds_toArray, List.set_cons_zero, List.set_cons_succ]
          refine wpAnyH_done (by kernel_rfl) ?_ _
          go_wp2
          go_meet
          case rel => exact Hid.mk ⟨_, _, _, by have := HNI.out; omega, HEV.out, H5.out.1, ((H5.out.2 b rfl).trans (H4.out.2 b rfl)).trans HD.out.bx⟩
        · have hw1 : (wy == 0) = false := by simpa using hw0
          obtain ⟨hab, hev⟩ := ev_rel HE0.out th tg
          have HEV := Hid.mk hev
          have HREL := Hid.mk (p_rel HD.out.pl th tg HWF.out.1 HWF.out.2 (by have := HNI.out; have := HX.out; have := HLT.out; omega))
          obtain ⟨G, hG⟩ : ∃ G, G = A.relL th tg := ⟨_, rfl⟩
          rw [← hG] at HREL hab
          obtain ⟨gl, hgl⟩ : ∃ gl, gl = G.length := ⟨_, rfl⟩
          rw [← hgl] at HREL
          have HRREL : Hid (∀ W4 ao4 c4, Pl (fun k => k = b ∨ (Value.slice ao4 gl c4).ownBlock = some k) w W4 t o r (A.rel th tg) (B.ask ⟨p, tg, true⟩) R N (M + 1) → Calls Try.prog 15 #[ptV r, .int .i64 th, .int .i64 tg] W4 fun e W' => ∃ ao c, e = .returned (.slice ao gl c) ∧ Hid (SlOk W' (.slice ao gl c) G ∧ Pl (fun k => k = b ∨ (Value.slice ao4 gl c4).ownBlock = some k) w W' t o r (A.rel th tg) (B.ask ⟨p, tg, true⟩) (R.rel th tg) N (M + 1) ∧ Kx (fun k => k = b ∨ (Value.slice ao4 gl c4).ownBlock = some k) W4 W')) := Hid.mk (fun W4 ao4 c4 h4 => by
            have := p_rrel h4 th tg (by have := HE0.out.len; have := HX.out; have := HLT.out; omega)
            rw [← hab, ← hgl] at this
            exact this)
          have HSAME : Hid (∀ W4 W5 ao4 c4 ao5 c5, SlOk W4 (.slice ao4 gl c4) G → SlOk W5 (.slice ao5 gl c5) G → Kx (fun k => k = b ∨ (Value.slice ao4 gl c4).ownBlock = some k) W4 W5 → Calls Try.prog 13 #[.slice ao4 gl c4, .slice ao5 gl c5] W5 fun e W' => e = .returned (.bool true) ∧ Below W5.heap.size W5 W') := Hid.mk (fun W4 W5 ao4 c4 ao5 c5 h4 h5 hk => samel_yes (h4.keep (fun k q => hk k (.inr q))) h5)
          have HBX3 : Hid (∀ W4 W5 W6, Kx (fun k => k = b) w2.drew W4 → Kx (fun k => k = b) W4 W5 → ∀ {X : Nat → Prop} {A B R N M}, Pl X w W5 t o r A B R N M → Below W5.heap.size W5 W6 → Sp3 b th tg al W6) := Hid.mk (fun W4 W5 W6 hk hk2 X A B R N M _ hB => by
            have e5 : Bx b ⟨th, tg, al⟩ W5 := ((hk2 b rfl).trans (hk b rfl)).trans HD.out.bx
            exact bx_cells ((hB.block b (lt_of_block e5)).trans e5))
          clear hab hev hG hgl
          go_wp2
          refine wp_region_held_drew (S := Sp3 b th tg al) (by kernel_rfl) hH (fun hH => ?_)
          change wpAnyH Try.prog Region.Mode.any _ _ _ 14 _ _ _
          refine takeH 0 61 (ptV t) rfl (by kernel_rfl) (by kernel_rfl) (by kernel_rfl) (by kernel_rfl) (fun _ _ _ h => h) (by kernel_rfl) (fun w hw => by kernel_rfl) hH ?_
          simp only [List.setIfInBounds_toArray, List.set_cons_zero, List.set_cons_succ]
          refine takeH 1 62 (.pointer (some ⟨b, 0, none⟩)) rfl (by kernel_rfl) (by kernel_rfl) (by kernel_rfl) (by kernel_rfl) (fun _ _ _ h => h) (by kernel_rfl) (fun w hw => by go_simp) hH ?_
          simp only [List.setIfInBounds_toArray, List.set_cons_zero, List.set_cons_succ]
          refine takeH 2 63 (.int .i64 th) rfl (by kernel_rfl) (by kernel_rfl) (by kernel_rfl) (by kernel_rfl) (fun _ _ _ h => h) (by kernel_rfl) (fun w hw => by (try dsimp only at hw); obtain ⟨hw1, hw2, hw3⟩ := hw; go_simp) hH ?_
          simp only [List.setIfInBounds_toArray, List.set_cons_zero, List.set_cons_succ]
          refine takeH 3 64 (.pointer (some ⟨b, 1, none⟩)) rfl (by kernel_rfl) (by kernel_rfl) (by kernel_rfl) (by kernel_rfl) (fun _ _ _ h => h) (by kernel_rfl) (fun w hw => by go_simp) hH ?_
          simp only [List.setIfInBounds_toArray, List.set_cons_zero, List.set_cons_succ]
          refine takeH 4 65 (.int .i64 tg) rfl (by kernel_rfl) (by kernel_rfl) (by kernel_rfl) (by kernel_rfl) (fun _ _ _ h => h) (by kernel_rfl) (fun w hw => by (try dsimp only at hw); obtain ⟨hw1, hw2, hw3⟩ := hw; go_simp) hH ?_
          simp only [List.setIfInBounds_toArray, List.set_cons_zero, List.set_cons_succ]
          refine takeH 6 67 (ptV r) rfl (by kernel_rfl) (by kernel_rfl) (by kernel_rfl) (by kernel_rfl) (fun _ _ _ h => h) (by kernel_rfl) (fun w hw => by kernel_rfl) hH ?_
          simp only [List.setIfInBounds_toArray, List.set_cons_zero, List.set_cons_succ]
          refine takeH 7 68 (.pointer (some ⟨b, 0, none⟩)) rfl (by kernel_rfl) (by kernel_rfl) (by kernel_rfl) (by kernel_rfl) (fun _ _ _ h => h) (by kernel_rfl) (fun w hw => by go_simp) hH ?_
          simp only [List.setIfInBounds_toArray, List.set_cons_zero, List.set_cons_succ]
          refine takeH 8 69 (.int .i64 th) rfl (by kernel_rfl) (by kernel_rfl) (by kernel_rfl) (by kernel_rfl) (fun _ _ _ h => h) (by kernel_rfl) (fun w hw => by (try dsimp only at hw); obtain ⟨hw1, hw2, hw3⟩ := hw; go_simp) hH ?_
          simp only [List.setIfInBounds_toArray, List.set_cons_zero, List.set_cons_succ]
          refine takeH 9 70 (.pointer (some ⟨b, 1, none⟩)) rfl (by kernel_rfl) (by kernel_rfl) (by kernel_rfl) (by kernel_rfl) (fun _ _ _ h => h) (by kernel_rfl) (fun w hw => by go_simp) hH ?_
          simp only [List.setIfInBounds_toArray, List.set_cons_zero, List.set_cons_succ]
          refine takeH 10 71 (.int .i64 tg) rfl (by kernel_rfl) (by kernel_rfl) (by kernel_rfl) (by kernel_rfl) (fun _ _ _ h => h) (by kernel_rfl) (fun w hw => by (try dsimp only at hw); obtain ⟨hw1, hw2, hw3⟩ := hw; go_simp) hH ?_
          simp only [List.setIfInBounds_toArray, List.set_cons_zero, List.set_cons_succ]
          refine stepH_call 5 66 rfl (by kernel_rfl) (by kernel_rfl) (by kernel_rfl) 14 #[.tmp 61, .tmp 63, .tmp 65] #[24, 3, 3] (by kernel_rfl) (enters_of Try.func14 (by kernel_rfl) rfl) #[ptV t, .int .i64 th, .int .i64 tg] (by kernel_rfl) HREL.out ?_
          rintro e w4 ⟨ao4, c4, rfl, H4⟩
          have hH := (HBX.out w4 H4.out.2.2)
          refine ⟨_, rfl, hH, ?_⟩
          simp only [List.setIfInBounds_toArray, List.set_cons_zero, List.set_cons_succ]
          refine stepH_call 11 72 rfl (by kernel_rfl) (by kernel_rfl) (by kernel_rfl) 15 #[.tmp 67, .tmp 69, .tmp 71] #[26, 3, 3] (by kernel_rfl) (enters_of Try.func15 (by kernel_rfl) rfl) #[ptV r, .int .i64 th, .int .i64 tg] (by kernel_rfl) (HRREL.out w4 ao4 c4 H4.out.2.1) ?_
          rintro e w5 ⟨ao5, c5, rfl, H5⟩
          have hH := (HBX2.out w4 w5 H4.out.2.2 (fun k hk => H5.out.2.2 k (.inl hk)))
          refine ⟨_, rfl, hH, ?_⟩
          simp only [List.setIfInBounds_toArray, List.set_cons_zero, List.set_cons_succ]
          refine stepH_call 12 73 rfl (by kernel_rfl) (by kernel_rfl) (by kernel_rfl) 13 #[.tmp 66, .tmp 72] #[27, 27] (by kernel_rfl) (enters_of Try.func13 (by kernel_rfl) rfl) #[.slice ao4 gl c4, .slice ao5 gl c5] (by kernel_rfl) (HSAME.out w4 w5 ao4 c4 ao5 c5 H4.out.1 H5.out.1 H5.out.2.2) ?_
          rintro e w6 ⟨rfl, H6⟩
          have hH := (HBX3.out w4 w5 w6 H4.out.2.2 (fun k hk => H5.out.2.2 k (.inl hk)) H5.out.2.1 H6)
          refine ⟨_, rfl, hH, ?_⟩
          simp only [List.setIfInBounds_toArray, List.set_cons_zero, List.set_cons_succ]
          refine takeH 13 74 (.bool false) rfl (by kernel_rfl) (by kernel_rfl) (by kernel_rfl) (by kernel_rfl) (fun _ _ _ h => h) (by kernel_rfl) (fun w hw => by go_simp) hH ?_
          simp only [List.setIfInBounds_toArray, List.set_cons_zero, List.set_cons_succ]
          refine wpAnyH_done (by kernel_rfl) ?_ _
          go_wp2
          go_meet
          case rel =>
            have e5 : Bx b ⟨th, tg, al⟩ w5 := ((H5.out.2.2 b (.inl rfl)).trans (H4.out.2.2 b rfl)).trans HD.out.bx
            exact Hid.mk ⟨_, _, _, by have := HNI.out; omega, HEV.out, (H5.out.2.1.side (Only.of_new (fun _ => False) H6) (fun _ q => q.elim) (fun k hk => .inl (.inl hk))), (H6.block b (lt_of_block e5)).trans e5⟩
      case rest =>
      obtain ⟨A', R', N', hN', hE', hP'⟩ := hcut.out
      have HN' := Hid.mk hN'
      have HE' := Hid.mk hE'
      have H3 := Hid.mk hP'
      clear hN' hE' hP' hcut H2 t0 HE0 HC
      generalize B.ask ⟨p, tg, true⟩ = B' at H3
      obtain ⟨z, hz⟩ : ∃ z, z = (A'.waits th).getD Lk.zero := ⟨_, rfl⟩
      obtain ⟨zd, hzd⟩ : ∃ zd, zd = (A'.waits th).isSome := ⟨_, rfl⟩
      have HW := Hid.mk (p_waits H3.out.pl th HWF.out.1)
      rw [← hz, ← hzd] at HW
      rw [eqv_waits H3.out.pl.okA HE'.out.eqv th] at hz hzd
      have HRW : Hid (∀ W, Pb w W t o r b ⟨th, tg, al⟩ A' B' R' N' (M + 1) → Calls Try.prog 17 #[ptV r, .int .i64 th] W fun e W' => e = .returned (.tuple #[lkV z, .bool zd]) ∧ Below W.heap.size W W') := Hid.mk (fun W h => by
        have := p_rwaits h.pl th
        rw [← hz, ← hzd] at this
        exact this)
      clear hz hzd
      obtain ⟨za, zb, zc⟩ := z
      unfold lkV at HW HRW
      simp only at HW HRW
      obtain ⟨k0, k1, k2⟩ := bx_cells H3.out.bx
      go_upto_region 18 with (first
        | (go_at_call 16; refine HW.out.mono ?_; rintro e w4 ⟨rfl, hb4⟩; have HB4 := Hid.mk hb4; clear hb4 HW)
        | go_in)
      obtain ⟨b1, hb1⟩ : ∃ b1, b1 = w4.heap.size := ⟨_, rfl⟩
      obtain ⟨W5, hW5⟩ : ∃ W5, W5 = w4.alloc (.cells #[.int .i64 za, .int .i64 zb, .bool zc] 31) := ⟨_, rfl⟩
      have HB5 : Hid (Below w4.heap.size w4 W5 ∧ Bx b1 ⟨za, zb, zc⟩ W5) := Hid.mk (by rw [hW5, hb1]; exact ⟨(Below.refl _ w4).alloc (Nat.le_refl _) _, blk_new w4 _⟩)
      rw [← hW5, ← hb1]
      have H5 := Hid.mk ((H3.out.next HB4.out).next HB5.out.1)
      have HX1 := Hid.mk HB5.out.2
      clear hb1 hW5 HB5 HB4 k0 k1 k2 H3
      obtain ⟨k0, k1, k2⟩ := bx_cells H5.out.bx
      go_upto_region 19 with (first
        | (go_at_call 17; refine (HRW.out _ H5.out).mono ?_; rintro e w6 ⟨rfl, hb6⟩; have HB6 := Hid.mk hb6; clear hb6 HRW)
        | go_in)
      obtain ⟨b3, hb3⟩ : ∃ b3, b3 = w6.heap.size := ⟨_, rfl⟩
      obtain ⟨W7, hW7⟩ : ∃ W7, W7 = w6.alloc (.cells #[.int .i64 za, .int .i64 zb, .bool zc] 31) := ⟨_, rfl⟩
      have HB7 : Hid (Below w6.heap.size w6 W7 ∧ Bx b3 ⟨za, zb, zc⟩ W7) := Hid.mk (by rw [hW7, hb3]; exact ⟨(Below.refl _ w6).alloc (Nat.le_refl _) _, blk_new w6 _⟩)
      rw [← hW7, ← hb3]
      have H7 := Hid.mk ((H5.out.next HB6.out).next HB7.out.1)
      have HX7 : Hid (Bx b1 ⟨za, zb, zc⟩ W7 ∧ Bx b3 ⟨za, zb, zc⟩ W7) := Hid.mk (by
        have q := (HB6.out.block b1 (lt_of_block HX1.out)).trans HX1.out
        exact ⟨(HB7.out.1.block b1 (lt_of_block q)).trans q, HB7.out.2⟩)
      clear hb3 hW7 HB7 HB6 HX1 k0 k1 k2 H5
      obtain ⟨hl, hhl⟩ : ∃ hl, hl = holdL (A'.held tg) := ⟨_, rfl⟩
      obtain ⟨hn, hhn⟩ : ∃ hn, hn = hl.length := ⟨_, rfl⟩
      have HHN := Hid.mk hhn
      have HHD : Hid (Calls Try.prog 18 #[ptV t, .int .i64 tg] W7 fun e W' => ∃ ah ch, e = .returned (.slice ah hn ch) ∧ Hid (HrAt W' ah hn ∧ (∀ k, (Value.slice ah hn ch).ownBlock = some k → W7.heap.size ≤ k ∧ k < W'.heap.size) ∧ LAt W' ah hn hl ∧ Below W7.heap.size W7 W')) := Hid.mk (by
        have h := p_holders H7.out.pl tg HWF.out.2 (by have := HN'.out; have := HX.out; have := HLT.out; omega)
        rw [← hhl, ← hhn] at h
        refine h.mono ?_
        rintro e W' ⟨v, rfl, HQ⟩
        obtain ⟨q1, q2⟩ := HQ.out
        obtain ⟨ah, ch, rfl, hla⟩ := owns_lat q1
        exact ⟨ah, ch, rfl, Hid.mk ⟨(hr_of q1).1, (hr_of q1).2, hla, q2⟩⟩)
      have HRL : Hid (R'.holders tg = hl ∧ hasB R'.held th tg = A'.holds th tg ∧ hn ≤ 16777216) := Hid.mk (by
        have q := eqv_holders H7.out.pl.okA HE'.out.eqv tg
        refine ⟨by rw [hhl, q], (eqv_holds HE'.out.eqv th tg).symm, ?_⟩
        rw [hhn, hhl, q]
        have q2 := insL_len (ofT tg R'.held)
        have q3 : (ofT tg R'.held).length ≤ R'.held.length := List.length_filter_le _ _
        have q4 : R'.holders tg = insL (ofT tg R'.held) := rfl
        rw [q4]
        have := HE'.out.len
        have := HX.out
        have := HLT.out
        omega)
      clear hhl hhn
      obtain ⟨k0, k1, k2⟩ := bx_cells H7.out.bx
      go_upto_region 20 with (first
        | (go_at_call 18; refine HHD.out.mono ?_; rintro e w8 ⟨ah, ch, rfl, H8⟩; clear HHD)
        | go_in)
      clear k0 k1 k2
      have HD : Hid (Pb w w8.drew t o r b ⟨th, tg, al⟩ A' B' R' N' (M + 1) ∧ Bx b1 ⟨za, zb, zc⟩ w8.drew ∧ Bx b3 ⟨za, zb, zc⟩ w8.drew ∧ LAt w8.drew ah hn hl ∧ HrAt w8.drew ah hn ∧ (∀ k, (Value.slice ah hn ch).ownBlock = some k → W7.heap.size ≤ k ∧ k < w8.drew.heap.size) ∧ Below W7.heap.size W7 w8.drew) := Hid.mk (by
        obtain ⟨q1, q2, q3, q4⟩ := H8.out
        have q5 : Below w8.heap.size w8 w8.drew := drew_below w8
        have q6 : Below W7.heap.size W7 w8.drew := q4.trans (q5.mono q4.size)
        exact ⟨H7.out.next q6, (q6.block b1 (lt_of_block HX7.out.1)).trans HX7.out.1, (q6.block b3 (lt_of_block HX7.out.2)).trans HX7.out.2, q3.next q5, hr_keep q1 q5, fun k hk => ⟨(q2 k hk).1, Nat.lt_of_lt_of_le (q2 k hk).2 q5.size⟩, q6⟩)
      have HBY : Hid (∀ W, Below w8.drew.heap.size w8.drew W → Sp9 b b1 b3 th tg al za zb zc W) := Hid.mk (fun W hB => by
        have f : ∀ c l, Bx c l w8.drew → Bx c l W := fun c l h => (hB.block c (lt_of_block h)).trans h
        obtain ⟨q1, q2, q3, _⟩ := HD.out
        obtain ⟨x1, x2, x3⟩ := bx_cells (f _ _ q1.bx)
        obtain ⟨y1, y2, y3⟩ := bx_cells (f _ _ q2)
        obtain ⟨v1, v2, v3⟩ := bx_cells (f _ _ q3)
        exact ⟨x1, x2, x3, y1, y2, y3, v1, v2, v3⟩)
      obtain ⟨gg, hgg⟩ : ∃ gg, gg = A'.holds th tg := ⟨_, rfl⟩
      have HHO : Hid (Calls Try.prog 19 #[ptV t, .int .i64 th, .int .i64 tg] w8.drew fun e W' => e = .returned (.bool gg) ∧ Hid (Below w8.drew.heap.size w8.drew W')) := Hid.mk (by
        refine (p_holds HD.out.1.pl th tg HWF.out.1 HWF.out.2).mono ?_
        rintro e W' ⟨rfl, hB⟩
        exact ⟨by rw [hgg], Hid.mk hB⟩)
      have HRHO : Hid (∀ W, Below w8.drew.heap.size w8.drew W → Calls Try.prog 20 #[ptV r, .int .i64 th, .int .i64 tg] W fun e W' => e = .returned (.bool gg) ∧ Hid (Below w8.drew.heap.size w8.drew W')) := Hid.mk (fun W h => by
        refine (p_rholds (HD.out.1.pl.grow h) th tg).mono ?_
        rintro e W' ⟨rfl, hB⟩
        exact ⟨by rw [hgg, HRL.out.2.1], Hid.mk (h.trans (hB.mono h.size))⟩)
      have HRHD : Hid (∀ W, Below w8.drew.heap.size w8.drew W → Calls Try.prog 22 #[ptV r, .int .i64 tg] W fun e W' => ∃ ao c, e = .returned (.slice ao hn c) ∧ Hid (Below w8.drew.heap.size w8.drew W' ∧ LAt W' ao hn hl)) := Hid.mk (fun W h => by
        have h2 := p_rholders (HD.out.1.pl.grow h) tg (by have := HE'.out.len; have := HX.out; have := HLT.out; omega)
        rw [HRL.out.1, ← HHN.out] at h2
        refine h2.mono ?_
        rintro e W' ⟨v, rfl, HQ⟩
        obtain ⟨ao, c, rfl, hla⟩ := owns_lat HQ.out.1
        exact ⟨ao, c, rfl, Hid.mk ⟨h.trans (HQ.out.2.mono h.size), hla⟩⟩)
      have HSI : Hid (∀ W ao c, Below w8.drew.heap.size w8.drew W ∧ LAt W ao hn hl → Calls Try.prog 21 #[.slice ah hn ch, .slice ao hn c] W fun e W' => e = .returned (.bool true) ∧ Hid (Below w8.drew.heap.size w8.drew W')) := Hid.mk (fun W ao c h => by
        refine (sameints_any W ah ao hn hn ch c hl hl (HD.out.2.2.2.1.next h.1) h.2 HRL.out.2.2 HRL.out.2.2).mono ?_
        rintro e W' ⟨rfl, hB⟩
        exact ⟨by simp, Hid.mk (h.1.trans (hB.mono h.1.size))⟩)
      have hH : Sp9 b b1 b3 th tg al za zb zc w8.drew := HBY.out w8.drew (Below.refl _ _)
      have HLN := Hid.mk HRL.out.2.2
      clear hgg H8 HX7 HHN
      refine wp_region_held_drew (S := Sp9 b b1 b3 th tg al za zb zc) (by kernel_rfl) hH (fun hH => ?_)
      change wpAnyH Try.prog Region.Mode.any _ _ _ 32 _ _ _
      refine takeH 0 93 (.agg #[.int .i64 za, .int .i64 zb, .bool zc]) rfl (by kernel_rfl) (by kernel_rfl) (by kernel_rfl) (by kernel_rfl) (fun _ _ _ h => h) (by kernel_rfl) (fun w hw => by (try dsimp only at hw); obtain ⟨hw1, hw2, hw3, hw4, hw5, hw6, hw7, hw8, hw9⟩ := hw; go_simp) hH ?_
      simp only [List.setIfInBounds_toArray, List.set_cons_zero, List.set_cons_succ]
      refine takeH 1 94 (.agg #[.int .i64 za, .int .i64 zb, .bool zc]) rfl (by kernel_rfl) (by kernel_rfl) (by kernel_rfl) (by kernel_rfl) (fun _ _ _ h => h) (by kernel_rfl) (fun w hw => by (try dsimp only at hw); obtain ⟨hw1, hw2, hw3, hw4, hw5, hw6, hw7, hw8, hw9⟩ := hw; go_simp) hH ?_
      simp only [List.setIfInBounds_toArray, List.set_cons_zero, List.set_cons_succ]
      refine takeH 2 95 (.bool false) rfl (by kernel_rfl) (by kernel_rfl) (by kernel_rfl) (by kernel_rfl) (fun _ _ _ h => h) (by kernel_rfl) (fun w hw => by go_simp) hH ?_
      simp only [List.setIfInBounds_toArray, List.set_cons_zero, List.set_cons_succ]
      refine takeH 3 96 (.bool false) rfl (by kernel_rfl) (by kernel_rfl) (by kernel_rfl) (by kernel_rfl) (fun _ _ _ h => h) (by kernel_rfl) (fun w hw => by kernel_rfl) hH ?_
      simp only [List.setIfInBounds_toArray, List.set_cons_zero, List.set_cons_succ]
      refine takeH 4 97 (.bool zd) rfl (by kernel_rfl) (by kernel_rfl) (by kernel_rfl) (by kernel_rfl) (fun _ _ _ h => h) (by kernel_rfl) (fun w hw => by kernel_rfl) hH ?_
      simp only [List.setIfInBounds_toArray, List.set_cons_zero, List.set_cons_succ]
      refine takeH 5 98 (.bool zd) rfl (by kernel_rfl) (by kernel_rfl) (by kernel_rfl) (by kernel_rfl) (fun _ _ _ h => h) (by kernel_rfl) (fun w hw => by kernel_rfl) hH ?_
      simp only [List.setIfInBounds_toArray, List.set_cons_zero, List.set_cons_succ]
      refine takeH 6 99 (.bool false) rfl (by kernel_rfl) (by kernel_rfl) (by kernel_rfl) (by kernel_rfl) (fun _ _ _ h => h) (by kernel_rfl) (fun w hw => by go_simp) hH ?_
      simp only [List.setIfInBounds_toArray, List.set_cons_zero, List.set_cons_succ]
      refine takeH 7 100 (.bool false) rfl (by kernel_rfl) (by kernel_rfl) (by kernel_rfl) (by kernel_rfl) (fun _ _ _ h => h) (by kernel_rfl) (fun w hw => by kernel_rfl) hH ?_
      simp only [List.setIfInBounds_toArray, List.set_cons_zero, List.set_cons_succ]
      refine takeH 8 101 (.bool false) rfl (by kernel_rfl) (by kernel_rfl) (by kernel_rfl) (by kernel_rfl) (fun _ _ _ h => h) (by kernel_rfl) (fun w hw => by kernel_rfl) hH ?_
      simp only [List.setIfInBounds_toArray, List.set_cons_zero, List.set_cons_succ]
      refine takeH 9 102 (ptV t) rfl (by kernel_rfl) (by kernel_rfl) (by kernel_rfl) (by kernel_rfl) (fun _ _ _ h => h) (by kernel_rfl) (fun w hw => by kernel_rfl) hH ?_
      simp only [List.setIfInBounds_toArray, List.set_cons_zero, List.set_cons_succ]
      refine takeH 10 103 (.pointer (some ⟨b, 0, none⟩)) rfl (by kernel_rfl) (by kernel_rfl) (by kernel_rfl) (by kernel_rfl) (fun _ _ _ h => h) (by kernel_rfl) (fun w hw => by go_simp) hH ?_
      simp only [List.setIfInBounds_toArray, List.set_cons_zero, List.set_cons_succ]
      refine takeH 11 104 (.int .i64 th) rfl (by kernel_rfl) (by kernel_rfl) (by kernel_rfl) (by kernel_rfl) (fun _ _ _ h => h) (by kernel_rfl) (fun w hw => by (try dsimp only at hw); obtain ⟨hw1, hw2, hw3, hw4, hw5, hw6, hw7, hw8, hw9⟩ := hw; go_simp) hH ?_
      simp only [List.setIfInBounds_toArray, List.set_cons_zero, List.set_cons_succ]
      refine takeH 12 105 (.pointer (some ⟨b, 1, none⟩)) rfl (by kernel_rfl) (by kernel_rfl) (by kernel_rfl) (by kernel_rfl) (fun _ _ _ h => h) (by kernel_rfl) (fun w hw => by go_simp) hH ?_
      simp only [List.setIfInBounds_toArray, List.set_cons_zero, List.set_cons_succ]
      refine takeH 13 106 (.int .i64 tg) rfl (by kernel_rfl) (by kernel_rfl) (by kernel_rfl) (by kernel_rfl) (fun _ _ _ h => h) (by kernel_rfl) (fun w hw => by (try dsimp only at hw); obtain ⟨hw1, hw2, hw3, hw4, hw5, hw6, hw7, hw8, hw9⟩ := hw; go_simp) hH ?_
      simp only [List.setIfInBounds_toArray, List.set_cons_zero, List.set_cons_succ]
      refine takeH 15 108 (ptV r) rfl (by kernel_rfl) (by kernel_rfl) (by kernel_rfl) (by kernel_rfl) (fun _ _ _ h => h) (by kernel_rfl) (fun w hw => by kernel_rfl) hH ?_
      simp only [List.setIfInBounds_toArray, List.set_cons_zero, List.set_cons_succ]
      refine takeH 16 109 (.pointer (some ⟨b, 0, none⟩)) rfl (by kernel_rfl) (by kernel_rfl) (by kernel_rfl) (by kernel_rfl) (fun _ _ _ h => h) (by kernel_rfl) (fun w hw => by go_simp) hH ?_
      simp only [List.setIfInBounds_toArray, List.set_cons_zero, List.set_cons_succ]
      refine takeH 17 110 (.int .i64 th) rfl (by kernel_rfl) (by kernel_rfl) (by kernel_rfl) (by kernel_rfl) (fun _ _ _ h => h) (by kernel_rfl) (fun w hw => by (try dsimp only at hw); obtain ⟨hw1, hw2, hw3, hw4, hw5, hw6, hw7, hw8, hw9⟩ := hw; go_simp) hH ?_
      simp only [List.setIfInBounds_toArray, List.set_cons_zero, List.set_cons_succ]
      refine takeH 18 111 (.pointer (some ⟨b, 1, none⟩)) rfl (by kernel_rfl) (by kernel_rfl) (by kernel_rfl) (by kernel_rfl) (fun _ _ _ h => h) (by kernel_rfl) (fun w hw => by go_simp) hH ?_
      simp only [List.setIfInBounds_toArray, List.set_cons_zero, List.set_cons_succ]
      refine takeH 19 112 (.int .i64 tg) rfl (by kernel_rfl) (by kernel_rfl) (by kernel_rfl) (by kernel_rfl) (fun _ _ _ h => h) (by kernel_rfl) (fun w hw => by (try dsimp only at hw); obtain ⟨hw1, hw2, hw3, hw4, hw5, hw6, hw7, hw8, hw9⟩ := hw; go_simp) hH ?_
      simp only [List.setIfInBounds_toArray, List.set_cons_zero, List.set_cons_succ]
      refine stepH_call 14 107 rfl (by kernel_rfl) (by kernel_rfl) (by kernel_rfl) 19 #[.tmp 102, .tmp 104, .tmp 106] #[24, 3, 3] (by kernel_rfl) (enters_of Try.func19 (by kernel_rfl) rfl) #[ptV t, .int .i64 th, .int .i64 tg] (by kernel_rfl) HHO.out ?_
      rintro e w9 ⟨rfl, H9⟩
      have hH := (HBY.out w9 H9.out)
      refine ⟨_, rfl, hH, ?_⟩
      simp only [List.setIfInBounds_toArray, List.set_cons_zero, List.set_cons_succ]
      refine stepH_call 20 113 rfl (by kernel_rfl) (by kernel_rfl) (by kernel_rfl) 20 #[.tmp 108, .tmp 110, .tmp 112] #[26, 3, 3] (by kernel_rfl) (enters_of Try.func20 (by kernel_rfl) rfl) #[ptV r, .int .i64 th, .int .i64 tg] (by kernel_rfl) (HRHO.out w9 H9.out) ?_
      rintro e w10 ⟨rfl, H10⟩
      have hH := (HBY.out w10 H10.out)
      refine ⟨_, rfl, hH, ?_⟩
      simp only [List.setIfInBounds_toArray, List.set_cons_zero, List.set_cons_succ]
      refine takeH 21 114 (.bool false) rfl (by kernel_rfl) (by kernel_rfl) (by kernel_rfl) (by kernel_rfl) (fun _ _ _ h => h) (by kernel_rfl) (fun w hw => by go_simp) hH ?_
      simp only [List.setIfInBounds_toArray, List.set_cons_zero, List.set_cons_succ]
      refine takeH 22 115 (.bool false) rfl (by kernel_rfl) (by kernel_rfl) (by kernel_rfl) (by kernel_rfl) (fun _ _ _ h => h) (by kernel_rfl) (fun w hw => by kernel_rfl) hH ?_
      simp only [List.setIfInBounds_toArray, List.set_cons_zero, List.set_cons_succ]
      refine takeH 23 116 (.bool false) rfl (by kernel_rfl) (by kernel_rfl) (by kernel_rfl) (by kernel_rfl) (fun _ _ _ h => h) (by kernel_rfl) (fun w hw => by kernel_rfl) hH ?_
      simp only [List.setIfInBounds_toArray, List.set_cons_zero, List.set_cons_succ]
      refine takeH 24 117 (.slice ah hn ch) rfl (by kernel_rfl) (by kernel_rfl) (by kernel_rfl) (by kernel_rfl) (fun _ _ _ h => h) (by kernel_rfl) (fun w hw => by kernel_rfl) hH ?_
      simp only [List.setIfInBounds_toArray, List.set_cons_zero, List.set_cons_succ]
      refine takeH 25 118 (ptV r) rfl (by kernel_rfl) (by kernel_rfl) (by kernel_rfl) (by kernel_rfl) (fun _ _ _ h => h) (by kernel_rfl) (fun w hw => by kernel_rfl) hH ?_
      simp only [List.setIfInBounds_toArray, List.set_cons_zero, List.set_cons_succ]
      refine takeH 26 119 (.pointer (some ⟨b, 1, none⟩)) rfl (by kernel_rfl) (by kernel_rfl) (by kernel_rfl) (by kernel_rfl) (fun _ _ _ h => h) (by kernel_rfl) (fun w hw => by go_simp) hH ?_
      simp only [List.setIfInBounds_toArray, List.set_cons_zero, List.set_cons_succ]
      refine takeH 27 120 (.int .i64 tg) rfl (by kernel_rfl) (by kernel_rfl) (by kernel_rfl) (by kernel_rfl) (fun _ _ _ h => h) (by kernel_rfl) (fun w hw => by (try dsimp only at hw); obtain ⟨hw1, hw2, hw3, hw4, hw5, hw6, hw7, hw8, hw9⟩ := hw; go_simp) hH ?_
      simp only [List.setIfInBounds_toArray, List.set_cons_zero, List.set_cons_succ]
      refine stepH_call 28 121 rfl (by kernel_rfl) (by kernel_rfl) (by kernel_rfl) 22 #[.tmp 118, .tmp 120] #[26, 3] (by kernel_rfl) (enters_of Try.func22 (by kernel_rfl) rfl) #[ptV r, .int .i64 tg] (by kernel_rfl) (HRHD.out w10 H10.out) ?_
      rintro e w11 ⟨ao11, c11, rfl, H11⟩
      have hH := (HBY.out w11 H11.out.1)
      refine ⟨_, rfl, hH, ?_⟩
      simp only [List.setIfInBounds_toArray, List.set_cons_zero, List.set_cons_succ]
      refine stepH_call 29 122 rfl (by kernel_rfl) (by kernel_rfl) (by kernel_rfl) 21 #[.tmp 117, .tmp 121] #[39, 39] (by kernel_rfl) (enters_of Try.func21 (by kernel_rfl) rfl) #[.slice ah hn ch, .slice ao11 hn c11] (by kernel_rfl) (HSI.out w11 ao11 c11 H11.out) ?_
      rintro e w12 ⟨rfl, H12⟩
      have hH := (HBY.out w12 H12.out)
      refine ⟨_, rfl, hH, ?_⟩
      simp only [List.setIfInBounds_toArray, List.set_cons_zero, List.set_cons_succ]
      refine takeH 30 123 (.bool false) rfl (by kernel_rfl) (by kernel_rfl) (by kernel_rfl) (by kernel_rfl) (fun _ _ _ h => h) (by kernel_rfl) (fun w hw => by go_simp) hH ?_
      simp only [List.setIfInBounds_toArray, List.set_cons_zero, List.set_cons_succ]
      refine takeH 31 124 (.bool false) rfl (by kernel_rfl) (by kernel_rfl) (by kernel_rfl) (by kernel_rfl) (fun _ _ _ h => h) (by kernel_rfl) (fun w hw => by kernel_rfl) hH ?_
      simp only [List.setIfInBounds_toArray, List.set_cons_zero, List.set_cons_succ]
      refine wpAnyH_done (by kernel_rfl) ?_ _
      have HP9 : Hid (Pl (fun k => (Value.slice ah hn ch).ownBlock = some k) w w12 t o r A' B' R' N' (M + 1) ∧ HrAt w12 ah hn) := Hid.mk (by
        obtain ⟨q1, q2, q3, q4, q5, q6, q7⟩ := HD.out
        have hB := H12.out
        exact ⟨H7.out.pl.side (Only.of_new (fun _ => False) (q7.trans (hB.mono q7.size))) (fun _ q => q.elim) (fun k hk => .inr ⟨(q6 k hk).1, Nat.lt_of_lt_of_le (q6 k hk).2 hB.size⟩), hr_keep q5 hB⟩)
      clear hH HBY HHO HRHO HRHD HSI HD HRL H9 H10 H11 H12 H7
      go_wp2
      go_loopw [14] (fun kv wr => ∃ k : Nat, kv = .int .i64 k ∧ Hid (k ≤ hn ∧ Pl (fun k => (Value.slice ah hn ch).ownBlock = some k) w wr t o r A' B' R' N' (M + 1) ∧ HrAt wr ah hn)) (fun kv _ => hn - (Go.RowKit.intOf kv).toNat)
      case atStart => exact ⟨0, rfl, Hid.mk ⟨Nat.zero_le _, HP9.out⟩⟩
      case round =>
        obtain ⟨k, rfl, HK⟩ := hrel
        clear HP9
        by_cases hkl : (k : Int) < (hn : Int)
        · have HKL : Hid (k < hn) := Hid.mk (by omega)
          have v1 : IntKind.i64.wrap ((k : Int) + 1) = ((k + 1 : Nat) : Int) := by
            have := HLN.out
            rw [IntKind.wrap_i64]
            omega
          obtain ⟨g, u, rfl, c1, c2, HST⟩ := hr_cell HK.out.2.2 HKL.out
          have e8 : (⟨g, 0, none⟩ : Addr).add (k * 1) = ⟨g, k, none⟩ := by rw [add_at]; simp
          have HNX : Hid (Pl (fun k => (Value.slice (some ⟨g, 0, none⟩) hn ch).ownBlock = some k) w (wr.setCell ⟨g, k, none⟩ (.int .i64 (-1))) t o r A' B' R' N' (M + 1) ∧ HrAt (wr.setCell ⟨g, k, none⟩ (.int .i64 (-1))) (some ⟨g, 0, none⟩) hn) := Hid.mk ⟨HK.out.2.1.side ((Only.refl (fun j => j = g) wr).setCell (p := ⟨g, k, none⟩) (.inl rfl) _) (fun j hj => by rw [hj]; rfl) (fun _ q => .inl q), HST _⟩
          clear HST
          go_wp2
          go_roundw
          case rel => exact ⟨k + 1, rfl, Hid.mk ⟨HKL.out, HNX.out⟩⟩
          case measure => (have := HKL.out; simp [Go.RowKit.intOf]; omega)
        · have HPE : Hid (Pl (fun _ => False) w wr t o r A' B' R' N' (M + 1)) := Hid.mk (HK.out.2.1.side (Only.refl (fun _ => False) wr) (fun _ q => q.elim) (fun _ q => q.elim))
          clear HK
          go_wp2
          go_roundw
          case rel => exact ⟨i + 1, rfl, Hid.mk ⟨HLT.out, A', B', R', N', M + 1, HN'.out, by have := HNI.out; omega, HE'.out, HPE.out⟩⟩
          case measure => (have := HLT.out; simp [Go.RowKit.intOf]; omega)
    · obtain rfl : i = n := by omega
      clear HV HB0
      have HS1 := Hid.mk (p_stuck HP0.out (by have := HNI.out; have := HX.out; omega))
      have HS2 : Hid (∀ W v, StkTo wr A.waited v W → ∃ ao m c L A1, v = .slice ao m c ∧ Hid (L.length = m ∧ Steps A.waited A1 ∧ A1.Done ∧ KeyL (intF lkV A1.waits) L ∧ LAt W ao m L) ∧ Calls Try.prog 24 #[ptV r] W fun e W' => ∃ ao2 c2, e = .returned (.slice ao2 m c2) ∧ Hid (LAt W' ao2 m L ∧ LAt W' ao m L ∧ m ≤ 16777216 ∧ Below w.heap.size w W')) := Hid.mk (fun W v h => by
        obtain ⟨L, A1, a1, a2, a3, a4, a5, a6⟩ := h
        obtain ⟨ao, c, rfl, hla⟩ := owns_lat a5
        refine ⟨ao, L.length, c, L, A1, rfl, Hid.mk ⟨rfl, a1, a2, a4, hla⟩, ?_⟩
        have hl := HE0.out.len
        have hx := HX.out
        refine (p_rstuck (HP0.out.grow a6) HE0.out.eqv HP0.out.okA (by omega)).mono ?_
        rintro e W' ⟨v2, rfl, HQ⟩
        obtain ⟨R2, A2, b1, b2, b3, b4, b5, b6, b7⟩ := HQ.out
        have e := ev_stuck HE0.out HP0.out.okA a1 a2 a4 b2 b3 b4 b5
        rw [← e] at b1 b7
        obtain ⟨ao2, c2, rfl, hla2⟩ := owns_lat b1
        exact ⟨ao2, c2, rfl, Hid.mk ⟨hla2, hla.next b6, by omega, (HP0.out.grow a6).bel.trans (b6.mono (HP0.out.grow a6).bel.size)⟩⟩)
      have HS3 : Hid (∀ W ao m c L ao2 c2, (LAt W ao2 m L ∧ LAt W ao m L ∧ m ≤ 16777216 ∧ Below w.heap.size w W) → Calls Try.prog 21 #[.slice ao m c, .slice ao2 m c2] W fun e W' => e = .returned (.bool true) ∧ Below w.heap.size w W') := Hid.mk (fun W ao m c L ao2 c2 h => by
        refine (sameints_any W ao ao2 m m c c2 L L h.2.1 h.1 h.2.2.1 h.2.2.1).mono ?_
        rintro e W' ⟨rfl, hB⟩
        exact ⟨by simp, h.2.2.2.trans (hB.mono h.2.2.2.size)⟩)
      clear HP0 HE0 HNI
      go_wp2_with (first
        | (go_at_call 23; refine HS1.out.mono ?_; rintro e w1 ⟨v1, rfl, H1⟩; obtain ⟨ao1, m1, c1, L1, A1, rfl, _, hS⟩ := HS2.out w1 v1 H1.out; have HSS := Hid.mk hS; clear hS HS1 HS2 H1)
        | (go_at_call 24; refine HSS.out.mono ?_; rintro e w2 ⟨ao2, c2, rfl, H2⟩; clear HSS)
        | (go_at_call 21; refine (HS3.out _ _ _ _ _ _ _ H2.out).mono ?_; rintro e w3 ⟨rfl, hb3⟩; have HB3 := Hid.mk hb3; clear hb3 HS3 H2)
        | go_in)
      go_ret
      exact ⟨rfl, HB3.out⟩
end Go.Proofs.Ytoediflikoedaaa
