/-
  The statement PatchApplies, by what Safe tells.
-/
import Derived.Test.YtjljklfahmjngaaPaLaterW
import Derived.Test.YtjljklfahmjngaaPaRApply
namespace Go.Proofs.Ytjljklfahmjngaa
open Go Go.Proofs Go.RowKit Go.Shelf
attribute [local go_sem] Oper.semAt_some
set_option maxRecDepth 100000 in
set_option maxHeartbeats 8000000 in
theorem applies_of (HSF : Hid SafeOk) (w : World) (a0 : Option Addr) (N c0 : Nat) (xs : List Int) (h0 : BAt w a0 N xs) (h0n : a0 = none → N = 0 ∧ c0 = 0) (b1 : Option Addr) (m c1 : Nat) (L : List Pt) (h1 : PcAt w b1 m L) (h2 : PnAt w L) (hm : m ≤ 9223372036854775807) (a2 : Option Addr) (om c2 : Nat) (outs : List Int) (h3 : LAt w a2 om outs) (h3i : ∀ x ∈ outs, I64 x) :
    Calls Try.prog 3 #[.slice a0 N c0, .slice b1 m c1, .slice a2 om c2] w fun e w' => e = .returned (.bool true) ∧ Below w.heap.size w w' := by
  have HAL := Hid.mk (alive_any w)
  have H0 := Hid.mk h0
  have H0N := Hid.mk h0n
  have H1 := Hid.mk h1
  have H2 := Hid.mk h2
  have H3 := Hid.mk h3
  have H3I := Hid.mk h3i
  have HBG : Hid (∀ W, Below w.heap.size w W → Calls Try.prog 10 #[.slice b1 m c1] W fun e w' => w' = W ∧ (e = .returned (.bool true) ∨ (e = .returned (.bool false) ∧ Hid (m ≤ 60 ∧ ∀ p ∈ L, p.n ≤ 5000)))) := Hid.mk (fun W hB => big_any W b1 m c1 L (h1.below hB) hm)
  clear h0 h0n h1 h2 hm h3 h3i
  by_cases g0 : 3000 < N
  · have g0' : (3000 : Int) < (N : Int) := by omega
    go_enter Try.func3, Try.ntmps3
    go_wp2_with (first
      | (go_at_call 9; refine HAL.out.mono ?_; rintro e w1 ⟨rfl, hb1⟩; have HB1 := Hid.mk hb1; clear hb1 HAL)
      | (go_at_call 10; refine (HBG.out _ HB1.out).mono ?_; rintro e w2 ⟨hw2, (rfl | ⟨rfl, HQ⟩)⟩ <;> (have hw2' := hw2.symm; clear hw2; subst hw2'; clear HBG)))
    all_goals
      go_ret
      exact ⟨rfl, HB1.out⟩
  have g0' : ¬ (3000 : Int) < (N : Int) := by omega
  by_cases g1 : 100 < om
  · have g1' : (100 : Int) < (om : Int) := by omega
    go_enter Try.func3, Try.ntmps3
    go_wp2_with (first
      | (go_at_call 9; refine HAL.out.mono ?_; rintro e w1 ⟨rfl, hb1⟩; have HB1 := Hid.mk hb1; clear hb1 HAL)
      | (go_at_call 10; refine (HBG.out _ HB1.out).mono ?_; rintro e w2 ⟨hw2, (rfl | ⟨rfl, HQ⟩)⟩ <;> (have hw2' := hw2.symm; clear hw2; subst hw2'; clear HBG)))
    all_goals
      go_ret
      exact ⟨rfl, HB1.out⟩
  have g1' : ¬ (100 : Int) < (om : Int) := by omega
  have HN : Hid (N ≤ 3000 ∧ om ≤ 100) := Hid.mk ⟨by omega, by omega⟩
  obtain ⟨sb, hsb⟩ : ∃ sb, sb = safeL L outs := ⟨_, rfl⟩
  have HSAFE : Hid (∀ W, Below w.heap.size w W → m ≤ 60 ∧ (∀ p ∈ L, p.n ≤ 5000) → Calls Try.prog 13 #[.slice b1 m c1, .slice a2 om c2] W fun e w' => e = .returned (.bool sb) ∧ Hid (Below w.heap.size w w')) := Hid.mk (fun W hB hq => by
    rw [hsb]
    exact (HSF.out W b1 m c1 L a2 om c2 outs (H1.out.below hB) (H2.out.below hB) hq.1 hq.2 (H3.out.below hB) HN.out.2 H3I.out).mono (fun e w' h => ⟨h.1, Hid.mk (hB.trans (h.2.mono hB.size))⟩))
  have HRSAFE : Hid (∀ W, Below w.heap.size w W → m ≤ 60 ∧ (∀ p ∈ L, p.n ≤ 5000) → Calls Try.prog 14 #[.slice b1 m c1, .slice a2 om c2] W fun e w' => e = .returned (.bool sb) ∧ Hid (Below w.heap.size w w')) := Hid.mk (fun W hB hq => by
    rw [hsb]
    exact (rsafe_any W b1 m c1 L (H1.out.below hB) (H2.out.below hB) (by omega) hq.2 a2 om c2 outs (H3.out.below hB) (by have := HN.out; omega)).mono (fun e w' h => ⟨h.1, Hid.mk (hB.trans (h.2.mono hB.size))⟩))
  obtain ⟨ys, hys⟩ : ∃ ys, ys = applyL xs (keptL L outs) := ⟨_, rfl⟩
  have HOWN : Hid (∀ W, Below w.heap.size w W → ∃ no nc W3, (Builtin.append_ #[22, 22] 22 #[.slice none 0 0, .slice a0 N c0]).run Try.prog W = .ok (.slice no N nc) W3 ∧ Hid (BAt W3 no N xs ∧ (no = none → N = 0 ∧ nc = 0) ∧ Below w.heap.size w W3)) := Hid.mk (fun W hB => by
    obtain ⟨v, W3, q1, q2, q3⟩ := append_nil_below W a0 N c0 xs (H0.out.below hB) (by have := HN.out; omega) H0N.out
    obtain ⟨no, nc, rfl, hb, -⟩ := owns_BAt q2
    exact ⟨no, nc, W3, q1, Hid.mk ⟨hb, owns_none q2, hB.trans (q3.mono hB.size)⟩⟩)
  have HAP : Hid (∀ W no nc, BAt W no N xs → (no = none → N = 0 ∧ nc = 0) → Below w.heap.size w W → m ≤ 60 → Calls Try.prog 11 #[.slice no N nc, .slice b1 m c1, .slice a2 om c2] W fun e w' => ∃ vo vc, e = .returned (.slice vo N vc) ∧ Hid (w'.ownsRow W.heap.size 5 1 (.slice vo N vc) N (By ys) ∧ Below W.heap.size W w')) := Hid.mk (fun W no nc q1 q2 hB hm60 => (apply_any W no N nc xs q1 q2 (by have := HN.out; omega) b1 m c1 L (H1.out.below hB) (H2.out.below hB) (by omega) a2 om c2 outs (H3.out.below hB) (by have := HN.out; omega) H3I.out).mono (by
    rintro e w' ⟨v, rfl, hown, hB'⟩
    rw [← hys] at hown
    obtain ⟨vo, vc, rfl, -⟩ := owns_BAt hown
    exact ⟨vo, vc, rfl, Hid.mk ⟨hown, hB'⟩⟩))
  have HRAP : Hid (∀ W, Below w.heap.size w W → m ≤ 60 ∧ (∀ p ∈ L, p.n ≤ 5000) → Calls Try.prog 12 #[.slice a0 N c0, .slice b1 m c1, .slice a2 om c2] W fun e w' => ∃ vo3 vc3, e = .returned (.slice vo3 N vc3) ∧ BAt w' vo3 N ys ∧ Below W.heap.size W w') := Hid.mk (fun W hB hq => (rapply_any W a0 N c0 xs (H0.out.below hB) H0N.out (by have := HN.out; omega) b1 m c1 L (H1.out.below hB) (H2.out.below hB) (by omega) (fun p hp => by have := hq.2 p hp; omega) a2 om c2 outs (H3.out.below hB) (by have := HN.out; omega)).mono (by
    rintro e w' ⟨v, rfl, hh⟩
    obtain ⟨hown, hB'⟩ := hh.out
    rw [← hys] at hown
    obtain ⟨vo, vc, rfl, hb, -⟩ := owns_BAt hown
    exact ⟨vo, vc, rfl, hb, hB'⟩))
  clear g0 g1 hsb hys
  go_enter Try.func3, Try.ntmps3
  go_wp2_with (first
    | (go_at_call 9; refine HAL.out.mono ?_; rintro e w1 ⟨rfl, hb1⟩; have HB1 := Hid.mk hb1; obtain ⟨no, nc, w3, hr3, H3O⟩ := HOWN.out _ hb1; have HR3 := Hid.mk hr3; clear hb1 HAL hr3 HOWN)
    | (go_at_call 10; refine (HBG.out _ HB1.out).mono ?_; rintro e w2 ⟨hw2, (rfl | ⟨rfl, HQ⟩)⟩ <;> (have hw2' := hw2.symm; clear hw2; subst hw2'; clear HBG))
    | (at_builtin; refine wpList_append_known rfl (.const (.slice none 0 0)) (.tmp 32) 22 rfl _ _ _ _ rfl rfl HR3.out ?_)
    | (go_at_call 11; refine (HAP.out _ _ _ H3O.out.1 H3O.out.2.1 H3O.out.2.2 HQ.out.1).mono ?_; rintro e w4 ⟨vo, vc, rfl, H4⟩; clear HAP HR3))
  · go_ret
    exact ⟨rfl, HB1.out⟩
  have hB4 : Below w.heap.size w w4 := H3O.out.2.2.trans (H4.out.2.mono H3O.out.2.2.size)
  obtain ⟨vo', vc', ev, hbb, -⟩ := owns_BAt H4.out.1
  cases ev
  have hS : BAt w4.drew vo N ys ∧ BAt w4.drew no N xs ∧ BAt w4.drew a0 N xs := ⟨hbb, H3O.out.1.below H4.out.2.drew, H0.out.below hB4.drew⟩
  have HRA : Hid (Calls Try.prog 12 #[.slice a0 N c0, .slice b1 m c1, .slice a2 om c2] w4.drew fun e w' => ∃ vo3 vc3, e = .returned (.slice vo3 N vc3) ∧ Hid (BAt w' vo N ys ∧ BAt w' no N xs ∧ BAt w' a0 N xs) ∧ Hid (Below w4.heap.size w4 w') ∧ Hid (BAt w' vo3 N ys)) := Hid.mk ((HRAP.out w4.drew hB4.drew HQ.out).mono (by
    rintro e w' ⟨vo3, vc3, rfl, q1, q2⟩
    exact ⟨vo3, vc3, rfl, Hid.mk ⟨hS.1.below q2, hS.2.1.below q2, hS.2.2.below q2⟩, Hid.mk ⟨q2.os, q2.tape, q2.output, q2.size, q2.block⟩, Hid.mk q1⟩))
  clear HRAP hB4 hbb HB1
  refine wp_region_held_drew (S := fun W => BAt W vo N ys ∧ BAt W no N xs ∧ BAt W a0 N xs) (by kernel_rfl) hS (fun hH => ?_)
  refine takeH 0 38 (.slice vo N vc) rfl (by kernel_rfl) (by kernel_rfl) (by kernel_rfl) (by kernel_rfl) (fun _ _ _ h => h) (by kernel_rfl) (fun w hw => by kernel_rfl) hH ?_
  simp only [List.setIfInBounds_toArray, List.set_cons_zero, List.set_cons_succ]
  refine takeH 1 39 (.string (strOfNums ys)) rfl (by kernel_rfl) (by kernel_rfl) (by kernel_rfl) (by kernel_rfl) (fun _ _ _ h => h) (by kernel_rfl) (fun w hw => by exact exec_convert (x := .tmp 38) (by kernel_rfl) (by kernel_rfl) (conv_bytes _ vo N vc ys hw.1)) hH ?_
  simp only [List.setIfInBounds_toArray, List.set_cons_zero, List.set_cons_succ]
  refine takeH 2 40 (.slice a0 N c0) rfl (by kernel_rfl) (by kernel_rfl) (by kernel_rfl) (by kernel_rfl) (fun _ _ _ h => h) (by kernel_rfl) (fun w hw => by kernel_rfl) hH ?_
  simp only [List.setIfInBounds_toArray, List.set_cons_zero, List.set_cons_succ]
  refine takeH 3 41 (.slice b1 m c1) rfl (by kernel_rfl) (by kernel_rfl) (by kernel_rfl) (by kernel_rfl) (fun _ _ _ h => h) (by kernel_rfl) (fun w hw => by kernel_rfl) hH ?_
  simp only [List.setIfInBounds_toArray, List.set_cons_zero, List.set_cons_succ]
  refine takeH 4 42 (.slice a2 om c2) rfl (by kernel_rfl) (by kernel_rfl) (by kernel_rfl) (by kernel_rfl) (fun _ _ _ h => h) (by kernel_rfl) (fun w hw => by kernel_rfl) hH ?_
  simp only [List.setIfInBounds_toArray, List.set_cons_zero, List.set_cons_succ]
  refine stepH_call 5 43 rfl (by kernel_rfl) (by kernel_rfl) (by kernel_rfl) 12 #[.tmp 40, .tmp 41, .tmp 42] #[22, 23, 24] (by kernel_rfl) (enters_of Try.func12 (by kernel_rfl) rfl) #[.slice a0 N c0, .slice b1 m c1, .slice a2 om c2] (by kernel_rfl) HRA.out ?_
  rintro e w6 ⟨vo3, vc3, rfl, HS6, HB6, HR6⟩
  refine ⟨_, rfl, HS6.out, ?_⟩
  simp only [List.setIfInBounds_toArray, List.set_cons_zero, List.set_cons_succ]
  refine stepH_run 6 44 (.string (strOfNums ys)) w6 rfl (by kernel_rfl) (by kernel_rfl) (by kernel_rfl) (exec_convert (x := .tmp 43) (by kernel_rfl) (by kernel_rfl) (conv_bytes _ vo3 N vc3 ys HR6.out)) HS6.out ?_
  simp only [List.setIfInBounds_toArray, List.set_cons_zero, List.set_cons_succ]
  refine stepH_run 7 45 (.bool true) w6 rfl (by kernel_rfl) (by kernel_rfl) (by kernel_rfl) (exec_streql (u := 9) (s := strOfNums ys) (t := strOfNums ys) (x := .tmp 39) (y := .tmp 44) true (by simp) (by kernel_rfl) (by kernel_rfl) (by kernel_rfl)) HS6.out ?_
  simp only [List.setIfInBounds_toArray, List.set_cons_zero, List.set_cons_succ]
  refine takeH 8 46 (.bool true) rfl (by kernel_rfl) (by kernel_rfl) (by kernel_rfl) (by kernel_rfl) (fun _ _ _ h => h) (by kernel_rfl) (fun w hw => by kernel_rfl) HS6.out ?_
  simp only [List.setIfInBounds_toArray, List.set_cons_zero, List.set_cons_succ]
  refine takeH 9 47 (.slice no N nc) rfl (by kernel_rfl) (by kernel_rfl) (by kernel_rfl) (by kernel_rfl) (fun _ _ _ h => h) (by kernel_rfl) (fun w hw => by kernel_rfl) HS6.out ?_
  simp only [List.setIfInBounds_toArray, List.set_cons_zero, List.set_cons_succ]
  refine takeH 10 48 (.string (strOfNums xs)) rfl (by kernel_rfl) (by kernel_rfl) (by kernel_rfl) (by kernel_rfl) (fun _ _ _ h => h) (by kernel_rfl) (fun w hw => by exact exec_convert (x := .tmp 47) (by kernel_rfl) (by kernel_rfl) (conv_bytes _ no N nc xs hw.2.1)) HS6.out ?_
  simp only [List.setIfInBounds_toArray, List.set_cons_zero, List.set_cons_succ]
  refine takeH 11 49 (.slice a0 N c0) rfl (by kernel_rfl) (by kernel_rfl) (by kernel_rfl) (by kernel_rfl) (fun _ _ _ h => h) (by kernel_rfl) (fun w hw => by kernel_rfl) HS6.out ?_
  simp only [List.setIfInBounds_toArray, List.set_cons_zero, List.set_cons_succ]
  refine takeH 12 50 (.string (strOfNums xs)) rfl (by kernel_rfl) (by kernel_rfl) (by kernel_rfl) (by kernel_rfl) (fun _ _ _ h => h) (by kernel_rfl) (fun w hw => by exact exec_convert (x := .tmp 49) (by kernel_rfl) (by kernel_rfl) (conv_bytes _ a0 N c0 xs hw.2.2)) HS6.out ?_
  simp only [List.setIfInBounds_toArray, List.set_cons_zero, List.set_cons_succ]
  refine takeH 13 51 (.bool true) rfl (by kernel_rfl) (by kernel_rfl) (by kernel_rfl) (by kernel_rfl) (fun _ _ _ h => h) (by kernel_rfl) (fun w hw => by exact exec_streql (u := 9) (s := strOfNums xs) (t := strOfNums xs) (x := .tmp 48) (y := .tmp 50) true (by simp) (by kernel_rfl) (by kernel_rfl) (by kernel_rfl)) HS6.out ?_
  simp only [List.setIfInBounds_toArray, List.set_cons_zero, List.set_cons_succ]
  refine takeH 14 52 (.bool true) rfl (by kernel_rfl) (by kernel_rfl) (by kernel_rfl) (by kernel_rfl) (fun _ _ _ h => h) (by kernel_rfl) (fun w hw => by kernel_rfl) HS6.out ?_
  simp only [List.setIfInBounds_toArray, List.set_cons_zero, List.set_cons_succ]
  refine takeH 15 11 (.bool true) rfl (by kernel_rfl) (by kernel_rfl) (by kernel_rfl) (by kernel_rfl) (fun _ _ _ h => h) (by kernel_rfl) (fun w hw => by kernel_rfl) HS6.out ?_
  simp only [List.setIfInBounds_toArray, List.set_cons_zero, List.set_cons_succ]
  refine wpAnyH_done (by kernel_rfl) ?_ _
  have hst6 : Below w3.heap.size w3 w6 ∧ ∃ zs, w6.ownsRow w3.heap.size 5 1 (.slice vo N vc) N (By zs) := ⟨H4.out.2.trans (HB6.out.mono H4.out.2.size), ys, owns_at H4.out.1 (fun j hj => HB6.out.block j (H4.out.1.lt j hj).2)⟩
  have HST := Hid.mk hst6
  clear hst6 hS hH HS6 HB6 HR6 H4 HRA
  go_wp2
  go_loopw [12] (fun iv wr => ∃ i : Nat, iv = .int .i64 i ∧ Hid (i ≤ N ∧ Below w3.heap.size w3 wr ∧ ∃ zs, wr.ownsRow w3.heap.size 5 1 (.slice vo N vc) N (By zs))) (fun iv _ => N - (Go.RowKit.intOf iv).toNat)
  case atStart => exact ⟨0, rfl, Hid.mk ⟨Nat.zero_le _, HST.out⟩⟩
  case round =>
    obtain ⟨i, rfl, HI⟩ := hrel
    clear HST
    by_cases hlt : i < N
    · have hlt' : (i : Int) < (N : Int) := by omega
      have u1 : IntKind.i64.wrap ((i : Int) + 1) = ((i + 1 : Nat) : Int) := by have := HN.out; rw [IntKind.wrap_i64]; omega
      obtain ⟨hbl, zs, hown⟩ := HI.out.2
      rcases hown.2 with ⟨-, h9⟩ | ⟨g, cap, cur, e9, -⟩
      · omega
      cases e9
      obtain ⟨d0, d1, hg⟩ := owns_cell hown i hlt
      have hadd : (⟨g, 0, none⟩ : Addr).add i = ⟨g, i, none⟩ := by rw [add_at]; simp
      have HNX : Hid (∀ y, i + 1 ≤ N ∧ Below w3.heap.size w3 (wr.setCell ⟨g, i, none⟩ (.int .u8 y)) ∧ ∃ zs, (wr.setCell ⟨g, i, none⟩ (.int .u8 y)).ownsRow w3.heap.size 5 1 (.slice (some ⟨g, 0, none⟩) N vc) N (By zs)) := Hid.mk (fun y => ⟨hlt, hbl.setCell (p := ⟨g, i, none⟩) hg _, _, owns_set hown i y⟩)
      have HLT := Hid.mk hlt
      clear HI hbl hown hlt hg
      generalize zs.getD i 0 = z at d0
      go_wp2
      go_roundw
      case rel => exact ⟨i + 1, rfl, Hid.mk (HNX.out _)⟩
      case measure => (have := HLT.out; simp [Go.RowKit.intOf]; omega)
    · have hlt' : ¬ (i : Int) < (N : Int) := by omega
      have hbl := HI.out.2.1
      have hbw : Below w.heap.size w wr := H3O.out.2.2.trans (hbl.mono H3O.out.2.2.size)
      have cv1 := conv_bytes wr no N nc xs (H3O.out.1.below hbl)
      have cv2 := conv_bytes wr a0 N c0 xs (H0.out.below hbw)
      generalize strOfNums xs = sx at cv1 cv2
      have HS1 := Hid.mk (HSAFE.out wr hbw HQ.out)
      have HS2 := Hid.mk (fun W hB => HRSAFE.out W hB HQ.out)
      have hxx : (sb == sb) = true := by simp
      clear HI hbl hbw HSAFE HRSAFE
      go_wp2_with (first
        | (go_at_call 13; refine HS1.out.mono ?_; rintro e w8 ⟨rfl, HB8⟩; clear HS1)
        | (go_at_call 14; refine (HS2.out _ HB8.out).mono ?_; rintro e w9 ⟨rfl, HB9⟩; clear HS2))
      go_ret
      exact ⟨rfl, HB9.out⟩
end Go.Proofs.Ytjljklfahmjngaa
