/-
  The statement PatchLater, by what Safe tells.
-/
import Derived.Test.YtjljklfahmjngaaPaLater
import Derived.Test.YtjljklfahmjngaaPaDiffs
namespace Go.Proofs.Ytjljklfahmjngaa
open Go Go.Proofs Go.RowKit Go.Shelf
attribute [local go_sem] Oper.semAt_some
/-- What is wanted of Safe. -/
def SafeOk : Prop := ∀ (W : World) (ao : Option Addr) (m c : Nat) (L : List Pt) (oo : Option Addr) (om oc : Nat) (outs : List Int), PcAt W ao m L → PnAt W L → m ≤ 60 → (∀ p ∈ L, p.n ≤ 5000) → LAt W oo om outs → om ≤ 100 → (∀ x ∈ outs, I64 x) →
  Calls Try.prog 13 #[.slice ao m c, .slice oo om oc] W fun e w' => e = .returned (.bool (safeL L outs)) ∧ Below W.heap.size W w'
theorem out_no {L : List Pt} {outs : List Int} {k : Nat} (h : k < L.length) (hi : (L.getD k noP).id ∉ outs) : outL (L.take (k + 1)) outs = outL (L.take k) outs := by
  rw [takeP_snoc L k h]
  unfold outL
  have e : decide ((L.getD k noP).id ∈ outs) = false := decide_eq_false hi
  rw [List.filter_append, List.filter_cons, e, if_neg (by simp), List.filter_nil, List.append_nil]
theorem out_yes {L : List Pt} {outs : List Int} {k : Nat} (h : k < L.length) (hi : (L.getD k noP).id ∈ outs) : outL (L.take (k + 1)) outs = outL (L.take k) outs ++ [L.getD k noP] := by
  rw [takeP_snoc L k h]
  unfold outL
  have e : decide ((L.getD k noP).id ∈ outs) = true := decide_eq_true hi
  rw [List.filter_append, List.filter_cons, e, if_pos rfl, List.filter_nil]
theorem owns_none {W : World} {base n c : Nat} {ao : Option Addr} {xs : List Value} (h : W.ownsRow base 5 1 (.slice ao n c) n xs) : ao = none → n = 0 ∧ c = 0 := by
  intro e
  rcases h.2 with ⟨e1, -⟩ | ⟨g, cap, cur, e1, -⟩
  · injection e1 with a1 a2 a3
    exact ⟨a2, a3⟩
  · injection e1 with a1 a2 a3
    rw [e] at a1
    cases a1
set_option maxRecDepth 100000 in
set_option maxHeartbeats 8000000 in
theorem later_of (HSF : Hid SafeOk) (w : World) (a0 : Option Addr) (N c0 : Nat) (xs : List Int) (h0 : BAt w a0 N xs) (h0n : a0 = none → N = 0 ∧ c0 = 0) (b1 : Option Addr) (m c1 : Nat) (L : List Pt) (h1 : PcAt w b1 m L) (h2 : PnAt w L) (hm : m ≤ 9223372036854775807) (a2 : Option Addr) (om c2 : Nat) (outs : List Int) (h3 : LAt w a2 om outs) (h3i : ∀ x ∈ outs, I64 x) :
    Calls Try.prog 6 #[.slice a0 N c0, .slice b1 m c1, .slice a2 om c2] w fun e w' => e = .returned (.bool true) ∧ Below w.heap.size w w' := by
  have HAL := Hid.mk (alive_any w)
  have H0 := Hid.mk h0
  have H0N := Hid.mk h0n
  have H1 := Hid.mk h1
  have H2 := Hid.mk h2
  have H3 := Hid.mk h3
  have H3I := Hid.mk h3i
  have HBG : Hid (∀ W, Below w.heap.size w W → Calls Try.prog 10 #[.slice b1 m c1] W fun e w' => w' = W ∧ (e = .returned (.bool true) ∨ (e = .returned (.bool false) ∧ Hid (m ≤ 60 ∧ ∀ p ∈ L, p.n ≤ 5000)))) := Hid.mk (fun W hB => big_any W b1 m c1 L (h1.below hB) hm)
  clear h0 h0n h1 h2 hm h3 h3i
  by_cases g0 : 3000 < N
  · have g0' : (3000 : Int) < (N : Int) := by omega
    go_enter Try.func6, Try.ntmps6
    go_wp2_with (first
      | (go_at_call 9; refine HAL.out.mono ?_; rintro e w1 ⟨rfl, hb1⟩; have HB1 := Hid.mk hb1; clear hb1 HAL)
      | (go_at_call 10; refine (HBG.out _ HB1.out).mono ?_; rintro e w2 ⟨hw2, (rfl | ⟨rfl, HQ⟩)⟩ <;> (have hw2' := hw2.symm; clear hw2; subst hw2'; clear HBG)))
    all_goals
      go_ret
      exact ⟨rfl, HB1.out⟩
  have g0' : ¬ (3000 : Int) < (N : Int) := by omega
  by_cases g1 : 100 < om
  · have g1' : (100 : Int) < (om : Int) := by omega
    go_enter Try.func6, Try.ntmps6
    go_wp2_with (first
      | (go_at_call 9; refine HAL.out.mono ?_; rintro e w1 ⟨rfl, hb1⟩; have HB1 := Hid.mk hb1; clear hb1 HAL)
      | (go_at_call 10; refine (HBG.out _ HB1.out).mono ?_; rintro e w2 ⟨hw2, (rfl | ⟨rfl, HQ⟩)⟩ <;> (have hw2' := hw2.symm; clear hw2; subst hw2'; clear HBG)))
    all_goals
      go_ret
      exact ⟨rfl, HB1.out⟩
  have g1' : ¬ (100 : Int) < (om : Int) := by omega
  have HN : Hid (N ≤ 3000 ∧ om ≤ 100) := Hid.mk ⟨by omega, by omega⟩
  have HSAFE : Hid (∀ W, Below w.heap.size w W → m ≤ 60 ∧ (∀ p ∈ L, p.n ≤ 5000) → Calls Try.prog 13 #[.slice b1 m c1, .slice a2 om c2] W fun e w' => Hid (Below w.heap.size w w') ∧ ((e = .returned (.bool true) ∧ Hid (safeL L outs = true)) ∨ e = .returned (.bool false))) := Hid.mk (fun W hB hq => (HSF.out W b1 m c1 L a2 om c2 outs (H1.out.below hB) (H2.out.below hB) hq.1 hq.2 (H3.out.below hB) HN.out.2 H3I.out).mono (fun e w' h => ⟨Hid.mk (hB.trans (h.2.mono hB.size)), by
    cases hs : safeL L outs with
    | true => rw [hs] at h; exact .inl ⟨h.1, Hid.mk rfl⟩
    | false => rw [hs] at h; exact .inr h.1⟩))
  clear g0 g1
  go_enter Try.func6, Try.ntmps6
  go_wp2_with (first
    | (go_at_call 9; refine HAL.out.mono ?_; rintro e w1 ⟨rfl, hb1⟩; have HB1 := Hid.mk hb1; clear hb1 HAL)
    | (go_at_call 10; refine (HBG.out _ HB1.out).mono ?_; rintro e w2 ⟨hw2, (rfl | ⟨rfl, HQ⟩)⟩ <;> (have hw2' := hw2.symm; clear hw2; subst hw2'; clear HBG))
    | (go_at_call 13; refine (HSAFE.out _ HB1.out HQ.out).mono ?_; rintro e w3 ⟨HB3, (⟨rfl, HSB⟩ | rfl)⟩ <;> clear HSAFE HB1))
  · go_ret
    exact ⟨rfl, HB1.out⟩
  rotate_left
  · go_ret
    exact ⟨rfl, HB3.out⟩
  have HSAF := HSB
  clear HSB
  have HM : Hid (m ≤ 60) := Hid.mk HQ.out.1
  have HLM : Hid (L.length = m) := Hid.mk H1.out.1
  go_loopw [9, 10, 11] (fun v iv _ wr => ∃ i : Nat, iv = .int .i64 i ∧ Hid (i ≤ m ∧ Below w.heap.size w wr ∧ wr.ownsRow w.heap.size 31 3 v (outL (L.take i) outs).length (Py (outL (L.take i) outs)))) (fun _ iv _ _ => m - (Go.RowKit.intOf iv).toNat)
  case atStart => exact ⟨0, rfl, Hid.mk ⟨Nat.zero_le _, HB3.out, World.ownsRow_nil _ _ _ _⟩⟩
  case round =>
    obtain ⟨i, rfl, HI⟩ := hrel
    clear HB3
    obtain ⟨vo, vc, ev, -⟩ := owns_PcAt HI.out.2.2
    subst ev
    by_cases hlt : i < m
    · have hlt' : (i : Int) < (m : Int) := by omega
      have u1 : IntKind.i64.wrap ((i : Int) + 1) = ((i + 1 : Nat) : Int) := by have := HM.out; rw [IntKind.wrap_i64]; omega
      have HIM := Hid.mk hlt
      obtain ⟨a, rfl, x0, x1, x2⟩ := (H1.out.below HI.out.2.1).load i hlt
      have HIL : Hid (i < L.length) := Hid.mk (by have := HLM.out; omega)
      obtain ⟨p, hp⟩ : ∃ p, p = L.getD i noP := ⟨_, rfl⟩
      rw [← hp] at x0 x1 x2
      have HP := Hid.mk hp
      have HIN1 := Hid.mk (in_any wr a2 om c2 outs (H3.out.below HI.out.2.1) (by have := HN.out; omega) p.id)
      clear hlt hp
      by_cases hin : p.id ∈ outs
      · rw [decide_eq_true hin] at HIN1
        have hll : (outL (L.take i) outs).length ≤ 60 := by
          have h9 := List.length_filter_le (fun p : Pt => decide (p.id ∈ outs)) (L.take i)
          rw [List.length_take] at h9
          unfold outL
          have := HM.out
          have := HIM.out
          omega
        obtain ⟨v', W', hr, ho, hg⟩ := appendp_run wr w.heap.size (.slice vo (outL (L.take i) outs).length vc) _ (outL (L.take i) outs) p HI.out.2.2 HI.out.2.1.size (by omega)
        have hB' : Below w.heap.size w W' := HI.out.2.1.trans (((Below.refl _ wr).alloc HI.out.2.1.size _).grown hg (by have := HI.out.2.1.size; simp; omega) (fun k hk => (HI.out.2.2.lt k hk).1))
        obtain ⟨vo', vc', ev', -⟩ := owns_PcAt ho
        subst ev'
        have HR : Hid ((Builtin.append_ #[23, 23] 23 #[.slice vo (outL (L.take i) outs).length vc, .slice (some ⟨wr.heap.size, 0, none⟩) 1 1]).run Try.prog (wr.alloc (.cells #[.int .i64 p.id, .int .i64 p.at', .slice p.ao p.n p.c] 31)) = .ok (.slice vo' ((outL (L.take i) outs).length + 1) vc') W') := Hid.mk hr
        have HNX : Hid (i + 1 ≤ m ∧ Below w.heap.size w W' ∧ W'.ownsRow w.heap.size 31 3 (.slice vo' ((outL (L.take i) outs).length + 1) vc') (outL (L.take (i + 1)) outs).length (Py (outL (L.take (i + 1)) outs))) := Hid.mk ⟨HIM.out, hB', by
          rw [out_yes HIL.out (by rw [← HP.out]; exact hin), List.length_append, ← HP.out]
          exact ho⟩
        clear HI hin hll hr ho hg hB'
        generalize (outL (L.take i) outs).length = ln at *
        go_wp2_with (first
          | (go_at_call 20; refine HIN1.out.mono ?_; rintro e w4 ⟨rfl, hw4⟩; have hw4' := hw4.symm; clear hw4; subst hw4'; clear HIN1)
          | (at_builtin; refine wpList_append_known rfl (.tmp 50) (.tmp 55) 23 rfl _ _ _ _ rfl rfl HR.out ?_))
        go_roundw
        case rel => exact ⟨i + 1, rfl, HNX⟩
        case measure => (have := HIM.out; simp [Go.RowKit.intOf]; omega)
      · rw [decide_eq_false hin] at HIN1
        have HNX : Hid (i + 1 ≤ m ∧ Below w.heap.size w wr ∧ wr.ownsRow w.heap.size 31 3 (.slice vo (outL (L.take i) outs).length vc) (outL (L.take (i + 1)) outs).length (Py (outL (L.take (i + 1)) outs))) := Hid.mk ⟨HIM.out, HI.out.2.1, by
          rw [out_no HIL.out (by rw [← HP.out]; exact hin)]
          exact HI.out.2.2⟩
        clear HI hin x1 x2
        go_wp2_with (go_at_call 20; refine HIN1.out.mono ?_; rintro e w4 ⟨rfl, hw4⟩; have hw4' := hw4.symm; clear hw4; subst hw4'; clear HIN1)
        go_roundw
        case rel => exact ⟨i + 1, rfl, HNX⟩
        case measure => (have := HIM.out; simp [Go.RowKit.intOf]; omega)
    · have hlt' : ¬ (i : Int) < (m : Int) := by omega
      have htk : L.take i = L := List.take_of_length_le (by have := HLM.out; omega)
      have hI := HI.out
      rw [htk] at hI ⊢
      obtain ⟨lo, lc, el, hlp, -⟩ := owns_PcAt hI.2.2
      cases el
      have hll : (outL L outs).length ≤ 60 := by
        have h9 := List.length_filter_le (fun p : Pt => decide (p.id ∈ outs)) L
        unfold outL
        have := HM.out
        have := HLM.out
        omega
      obtain ⟨ys, hys⟩ : ∃ ys, ys = applyL xs L := ⟨_, rfl⟩
      have HB := Hid.mk hI.2.1
      have hB := hI.2.1
      have HA1 : Hid (Calls Try.prog 11 #[.slice a0 N c0, .slice b1 m c1, .slice a2 om c2] wr fun e w' => ∃ v1 k1, e = .returned (.slice v1 N k1) ∧ Hid (BAt w' v1 N (applyL xs (keptL L outs)) ∧ (v1 = none → N = 0 ∧ k1 = 0) ∧ Below wr.heap.size wr w')) := Hid.mk ((apply_any wr a0 N c0 xs (H0.out.below hB) H0N.out (by have := HN.out; omega) b1 m c1 L (H1.out.below hB) (H2.out.below hB) (by have := HM.out; omega) a2 om c2 outs (H3.out.below hB) (by have := HN.out; omega) H3I.out).mono (by
        rintro e w' ⟨v, rfl, hown, hB'⟩
        obtain ⟨v1, k1, rfl, hb, -⟩ := owns_BAt hown
        exact ⟨v1, k1, rfl, Hid.mk ⟨hb, owns_none hown, hB'⟩⟩))
      have HA2 : Hid (∀ W v1 k1, BAt W v1 N (applyL xs (keptL L outs)) → (v1 = none → N = 0 ∧ k1 = 0) → Below wr.heap.size wr W → Calls Try.prog 11 #[.slice v1 N k1, .slice vo (outL L outs).length vc, .slice none 0 0] W fun e w' => ∃ v2 k2, e = .returned (.slice v2 N k2) ∧ Hid (BAt w' v2 N ys ∧ Below w.heap.size w w')) := Hid.mk (fun W v1 k1 q1 q2 q3 => (apply_any W v1 N k1 _ q1 q2 (by have := HN.out; omega) vo (outL L outs).length vc (outL L outs) (hlp.below q3) (fun p hp => (H2.out.below (hB.trans (q3.mono hB.size))) p (List.mem_filter.1 hp).1) (by omega) none 0 0 [] ⟨rfl, fun h => absurd h (Nat.lt_irrefl 0)⟩ (by omega) (fun x hx => by cases hx)).mono (by
        rintro e w' ⟨v, rfl, hown, hB'⟩
        obtain ⟨v2, k2, rfl, hb, -⟩ := owns_BAt hown
        rw [kept_none, later_all outs xs L.length L rfl (fun p hp => (H2.out p hp).1.1) HSAF.out, ← hys] at hb
        have hBW := hB.trans (q3.mono hB.size)
        exact ⟨v2, k2, rfl, Hid.mk ⟨hb, hBW.trans (hB'.mono hBW.size)⟩⟩))
      have HA3 : Hid (∀ W v2, BAt W v2 N ys → Below w.heap.size w W → Calls Try.prog 11 #[.slice a0 N c0, .slice b1 m c1, .slice none 0 0] W fun e w' => ∃ v3 k3, e = .returned (.slice v3 N k3) ∧ Hid (BAt w' v2 N ys) ∧ Hid (Below w.heap.size w w') ∧ Hid (BAt w' v3 N ys)) := Hid.mk (fun W v2 q1 q2 => (apply_any W a0 N c0 xs (H0.out.below q2) H0N.out (by have := HN.out; omega) b1 m c1 L (H1.out.below q2) (H2.out.below q2) (by have := HM.out; omega) none 0 0 [] ⟨rfl, fun h => absurd h (Nat.lt_irrefl 0)⟩ (by omega) (fun x hx => by cases hx)).mono (by
        rintro e w' ⟨v, rfl, hown, hB'⟩
        obtain ⟨v3, k3, rfl, hb, -⟩ := owns_BAt hown
        rw [kept_none, ← hys] at hb
        exact ⟨v3, k3, rfl, Hid.mk (q1.below hB'), Hid.mk (q2.trans (hB'.mono q2.size)), Hid.mk hb⟩))
      clear HI hI hlp hll hys hB htk
      generalize (outL L outs).length = ln at *
      go_wp2_with (first
        | (go_at_call 11; refine HA1.out.mono ?_; rintro e w5 ⟨v1, k1, rfl, H5⟩; have HA2' := Hid.mk (HA2.out _ _ _ H5.out.1 H5.out.2.1 H5.out.2.2); clear HA1 HA2)
        | (go_at_call 11; refine HA2'.out.mono ?_; rintro e w6 ⟨vo2, vc2, rfl, H6⟩; clear HA2' H5))
      have hS : BAt w6.drew vo2 N ys := H6.out.1
      have HAP3 := Hid.mk (HA3.out w6.drew vo2 hS H6.out.2.drew)
      clear HA3 H6
      refine wp_region_held_drew (S := fun W => BAt W vo2 N ys) (by kernel_rfl) hS (fun hH => ?_)
      refine takeH 0 63 (.slice vo2 N vc2) rfl (by kernel_rfl) (by kernel_rfl) (by kernel_rfl) (by kernel_rfl) (fun _ _ _ h => h) (by kernel_rfl) (fun w hw => by kernel_rfl) hH ?_
      simp only [List.setIfInBounds_toArray, List.set_cons_zero, List.set_cons_succ]
      refine takeH 1 64 (.string (strOfNums ys)) rfl (by kernel_rfl) (by kernel_rfl) (by kernel_rfl) (by kernel_rfl) (fun _ _ _ h => h) (by kernel_rfl) (fun w hw => by exact exec_convert (x := .tmp 63) (by kernel_rfl) (by kernel_rfl) (conv_bytes _ vo2 N vc2 ys hw)) hH ?_
      simp only [List.setIfInBounds_toArray, List.set_cons_zero, List.set_cons_succ]
      refine takeH 2 65 (.slice a0 N c0) rfl (by kernel_rfl) (by kernel_rfl) (by kernel_rfl) (by kernel_rfl) (fun _ _ _ h => h) (by kernel_rfl) (fun w hw => by kernel_rfl) hH ?_
      simp only [List.setIfInBounds_toArray, List.set_cons_zero, List.set_cons_succ]
      refine takeH 3 66 (.slice b1 m c1) rfl (by kernel_rfl) (by kernel_rfl) (by kernel_rfl) (by kernel_rfl) (fun _ _ _ h => h) (by kernel_rfl) (fun w hw => by kernel_rfl) hH ?_
      simp only [List.setIfInBounds_toArray, List.set_cons_zero, List.set_cons_succ]
      refine stepH_call 4 67 rfl (by kernel_rfl) (by kernel_rfl) (by kernel_rfl) 11 #[.tmp 65, .tmp 66, .const (.slice none 0 0)] #[22, 23, 24] (by kernel_rfl) (enters_of Try.func11 (by kernel_rfl) rfl) #[.slice a0 N c0, .slice b1 m c1, .slice none 0 0] (by kernel_rfl) HAP3.out ?_
      rintro e w9 ⟨vo3, vc3, rfl, HS9, HB9, HR9⟩
      refine ⟨_, rfl, HS9.out, ?_⟩
      simp only [List.setIfInBounds_toArray, List.set_cons_zero, List.set_cons_succ]
      refine stepH_run 5 68 (.string (strOfNums ys)) w9 rfl (by kernel_rfl) (by kernel_rfl) (by kernel_rfl) (exec_convert (x := .tmp 67) (by kernel_rfl) (by kernel_rfl) (conv_bytes _ vo3 N vc3 ys HR9.out)) HS9.out ?_
      simp only [List.setIfInBounds_toArray, List.set_cons_zero, List.set_cons_succ]
      refine stepH_run 6 69 (.bool true) w9 rfl (by kernel_rfl) (by kernel_rfl) (by kernel_rfl) (exec_streql (u := 9) (s := strOfNums ys) (t := strOfNums ys) (x := .tmp 64) (y := .tmp 68) true (by simp) (by kernel_rfl) (by kernel_rfl) (by kernel_rfl)) HS9.out ?_
      simp only [List.setIfInBounds_toArray, List.set_cons_zero, List.set_cons_succ]
      refine takeH 7 6 (.bool true) rfl (by kernel_rfl) (by kernel_rfl) (by kernel_rfl) (by kernel_rfl) (fun _ _ _ h => h) (by kernel_rfl) (fun w hw => by kernel_rfl) HS9.out ?_
      simp only [List.setIfInBounds_toArray, List.set_cons_zero, List.set_cons_succ]
      refine wpAnyH_done (by kernel_rfl) ?_ _
      go_wp2
      go_ret
      exact ⟨rfl, HB9.out⟩
end Go.Proofs.Ytjljklfahmjngaa
