/-
  Split of the reference: its walk.
-/
import Derived.Test.YtbahbhaoimabdaaPtRef
namespace Go.Proofs.Ytbahbhaoimabdaa
open Go Go.Proofs Go.RowKit Go.Shelf

section
variable {w : World} {ops : Array Oper} {rest : List Oper} {o : Oper} {a : Act} {Q : Exit → Act → World → Prop}
theorem wpL_one (x : Operand) (ho : o.op = .buildSlice 31 1 #[(0, x)]) (hw : Region.wanted o (yielded ops a.tmps) = true) (p : List UInt8) (q : Nat) (W1 : World) (hq : q = w.heap.size) (hW : W1 = w.alloc (.cells #[strV p] 9)) (hx : a.eval x = strV p) (h : wpList Try.prog ops Q rest (a.put o.dst (.slice (some ⟨q, 0, none⟩) 1 1)) W1) : wpList Try.prog ops Q (o :: rest) a w := by
  subst hq hW
  refine BigFrame.wpList_want hw fun K hK => ?_
  unfold Oper.wp
  rw [exec_one9 ho hx, Oper.upon_value]
  exact hK _ _ h
end

theorem strB (p q : List UInt8) : ((mkS p).toList == q) = decide (p = q) := by
  rw [ByteArray.toList_eq, beq_dec]; exact decide_eq_decide.2 (by simp [mkS])

set_option maxRecDepth 100000 in
set_option maxHeartbeats 4000000 in
theorem rsplit_in (w : World) (s : ByteArray) (r : List UInt8) (hl : ofS s = 47 :: r) (hr0 : r ≠ []) (hr : s.size ≤ 500) :
    Calls Try.prog 24 #[.string s] w fun e w' => ∃ v, e = .returned (.tuple #[v, .bool (splitL (ofS s)).isSome]) ∧ w'.ownsRow w.heap.size 9 1 v (splL (splitL (ofS s))).length (Sy (splL (splitL (ofS s)))) ∧ Below w.heap.size w w' := by
  have HLS := Hid.mk (ofS_length s)
  have HAT := Hid.mk (nm_at s)
  have hsz : s.size = r.length + 1 := by rw [← HLS.out, hl]; rfl
  have HG : Hid (∀ k, k < s.size → ((nm s).getD k 0 = 47 ↔ (ofS s).getD k 0 = 47)) := Hid.mk (fun k hk => by
    have hk2 : k < (ofS s).length := by rw [HLS.out]; exact hk
    have e : (nm s).getD k 0 = (((ofS s).getD k 0).toNat : Int) := by
      show ((ofS s).map (fun u => (u.toNat : Int))).getD k 0 = _
      simp [List.getD, List.getElem?_eq_getElem hk2]
    rw [e]
    constructor
    · intro h
      apply UInt8.toNat_inj.1
      have : ((ofS s).getD k 0).toNat = 47 := by omega
      rw [this]; rfl
    · intro h
      rw [h]; rfl)
  have HX : Hid (∀ f k : Nat, s.extract f k = mkS (rqP (ofS s) f k)) := Hid.mk (fun f k => by
    have := mkS_extract (ofS s) f k
    rw [mk_of] at this
    exact this)
  have HPL : Hid (∀ f k : Nat, (rqP (ofS s) f k).length ≤ s.size) := Hid.mk (fun f k => by unfold rqP; rw [List.length_drop, List.length_take, HLS.out]; omega)
  have h1 : s.toList.isEmpty = false := by rw [nm_empty]; exact decide_eq_false (by omega)
  have h2 : (s.toList == [47]) = false := by
    have := strB (ofS s) [47]
    rw [mk_of] at this
    rw [this, hl]
    exact decide_eq_false (by simpa using hr0)
  have h0 : 0 < s.size := by omega
  have h3 : (s[0]'h0).toNat = 47 := by
    have e := HAT.out 0 h0
    have := (HG.out 0 h0).2 (by rw [hl]; rfl)
    omega
  have h5 : (s.size : Int) ≤ 500 := by omega
  have HL := Hid.mk hl
  have HSZ := Hid.mk hsz
  have HR0 := Hid.mk hr0
  have HR := Hid.mk hr
  clear hl hr0 hsz hr
  go_enter Try.func24, Try.ntmps24
  go_wp2
  go_loopw [4, 5, 6] (fun x fv iv wr => ∃ (L : List (List UInt8)) (f k : Nat), fv = .int .i64 f ∧ iv = .int .i64 k ∧ Hid (RQ (ofS s) r L f k ∧ wr.ownsRow w.heap.size 9 1 x L.length (Sy L) ∧ Below w.heap.size w wr)) (fun _ _ i _ => s.size + 1 - (intOf i).toNat)
  case atStart => exact ⟨[], 1, 1, rfl, rfl, Hid.mk ⟨by rw [HL.out]; exact RQ.start r, World.ownsRow_nil _ _ _ _, Below.refl _ _⟩⟩
  case round =>
    obtain ⟨L, f, k, rfl, rfl, HK⟩ := hrel
    obtain ⟨hQ, hO, hB⟩ := HK.out
    have hfk := hQ.fk
    have hf1 := hQ.f1
    have hkN := hQ.kN
    rw [HLS.out] at hkN
    by_cases hle : k ≤ s.size
    · have hiN : (k : Int) ≤ s.size := by omega
      have hif : (f : Int) ≤ k := by omega
      have hw1 : IntKind.i64.wrap ((k : Int) + 1) = (k : Int) + 1 := by rw [IntKind.wrap_i64]; omega
      have hw2 : ((k : Int) + 1) = ((k + 1 : Nat) : Int) := by omega
      have HW2 := Hid.mk hw2
      have HQ := Hid.mk hQ
      have HO := Hid.mk hO
      have HB := Hid.mk hB
      have HF := Hid.mk (And.intro hfk (And.intro hf1 (And.intro hkN hle)))
      by_cases hA : k < s.size ∧ (ofS s).getD k 0 ≠ 47
      · obtain ⟨hlt, h47⟩ := hA
        have hz : ¬ (s[k]'hlt).toNat = 47 := fun e => h47 ((HG.out k hlt).1 (by have := HAT.out k hlt; omega))
        have hz2 : (((s[k]'hlt).toNat : Int) == 47) = false := by simp; omega
        have HN : Hid (RQ (ofS s) r L f (k + 1)) := Hid.mk (hQ.next (by rw [HLS.out]; exact hlt) h47)
        clear hQ hO hB hfk hf1 hkN hle h47 HK hw2
        go_wp2
        go_roundw
        case rel => exact ⟨L, f, k + 1, rfl, by rw [← HW2.out], Hid.mk ⟨HN.out, HO.out, HB.out⟩⟩
        case measure =>
          obtain ⟨_, _, _, _⟩ := HF.out
          simp [intOf]; omega
      · have h47 : k < s.size → (ofS s).getD k 0 = 47 := fun h => by
          by_cases h' : (ofS s).getD k 0 = 47
          · exact h'
          · exact absurd ⟨h, h'⟩ hA
        obtain ⟨p, hp⟩ : ∃ p, p = rqP (ofS s) f k := ⟨_, rfl⟩
        have hxe : s.extract f k = mkS p := by rw [HX.out, hp]
        have HNM : Hid (∀ W, Calls Try.prog 40 #[.string (mkS p)] W fun e w' => e = .returned (.bool (nameB (nm (mkS p)))) ∧ w' = W) := Hid.mk (fun W => rname_any W (mkS p) (by rw [mkS_size, hp]; have := HPL.out f k; have := HR.out; omega))
        have e1 := strB p [46]
        have e2 := strB p [46, 46]
        have HM : Hid (mayB p = (nameB (nm (mkS p)) && (!decide (p = [46]) && !decide (p = [46, 46])))) := Hid.mk rfl
        have HBAD : Hid (mayB p = false → splitL (ofS s) = none) := Hid.mk (fun h => hQ.bad (by rw [HLS.out]; exact hle) (fun h => h47 (by rw [← HLS.out]; exact h)) HL.out HR0.out (by rw [← hp]; exact h))
        have HGOOD : Hid (mayB p = true → RQ (ofS s) r (L ++ [p]) (k + 1) (k + 1)) := Hid.mk (fun h => by
          rw [hp]
          exact hQ.step (by rw [HLS.out]; exact hle) (fun h => h47 (by rw [← HLS.out]; exact h)) (by rw [← hp]; exact h))
        obtain ⟨v', W4, hr4, ho4, hon4⟩ := append9_run wr w.heap.size u4 L.length L p hO hB.size (by
          have h1 := congrArg List.length hQ.come
          have h2 := pieces_count r
          have h3 := HSZ.out
          have h4 := HR.out
          rw [List.length_append] at h1
          omega)
        have HR4 := Hid.mk hr4
        have HO4 := Hid.mk ho4
        have HB4 : Hid (Below w.heap.size w W4) := Hid.mk (hB.trans (hon4.below hB.size (fun j e => (hO.lt j e).1)))
        have HP := Hid.mk hp
        generalize hn : nameB (nm (mkS p)) = nb at *
        generalize hd1 : decide (p = [46]) = d1 at *
        generalize hd2 : decide (p = [46, 46]) = d2 at *
        clear hn hd1 hd2
        have hcase : (k < s.size ∧ (ofS s).getD k 0 = 47) ∨ k = s.size := by
          rcases Nat.lt_or_ge k s.size with h | h
          · exact .inl ⟨h, h47 h⟩
          · exact .inr (by omega)
        rcases hcase with ⟨hlt, hz0⟩ | heq
        · have hz : (s[k]'hlt).toNat = 47 := by
            have := HAT.out k hlt
            have := (HG.out k hlt).2 hz0
            omega
          have hz2 : (((s[k]'hlt).toNat : Int) == 47) = true := by simp; omega
          clear hQ hO hB hfk hf1 hkN hle h47 HK hw2 hA hp hz0 hr4 ho4 hon4
          cases nb with
          | false =>
            go_wp2_with (first
              | (go_at_call 40; refine (HNM.out _).mono ?_; rintro e w' ⟨rfl, hw⟩; subst w')
              | (refine wpL_one (.tmp 56) rfl rfl p _ _ rfl rfl rfl ?_)
              | (at_builtin; refine wpList_append_known rfl (.tmp 55) (.tmp 57) 31 rfl _ _ _ _ rfl rfl HR4.out ?_))
            go_ret2
            have hb := HBAD.out (by rw [HM.out]; rfl)
            exact ⟨.slice none 0 0, by rw [hb]; rfl, by rw [hb]; exact World.ownsRow_nil _ _ _ _, HB.out⟩
          | true =>
            cases d1 with
            | true =>
              go_wp2_with (first
                | (go_at_call 40; refine (HNM.out _).mono ?_; rintro e w' ⟨rfl, hw⟩; subst w')
                | (refine wpL_one (.tmp 56) rfl rfl p _ _ rfl rfl rfl ?_)
                | (at_builtin; refine wpList_append_known rfl (.tmp 55) (.tmp 57) 31 rfl _ _ _ _ rfl rfl HR4.out ?_))
              go_ret2
              have hb := HBAD.out (by rw [HM.out]; rfl)
              exact ⟨.slice none 0 0, by rw [hb]; rfl, by rw [hb]; exact World.ownsRow_nil _ _ _ _, HB.out⟩
            | false =>
              cases d2 with
              | true =>
                go_wp2_with (first
                  | (go_at_call 40; refine (HNM.out _).mono ?_; rintro e w' ⟨rfl, hw⟩; subst w')
                  | (refine wpL_one (.tmp 56) rfl rfl p _ _ rfl rfl rfl ?_)
                  | (at_builtin; refine wpList_append_known rfl (.tmp 55) (.tmp 57) 31 rfl _ _ _ _ rfl rfl HR4.out ?_))
                go_ret2
                have hb := HBAD.out (by rw [HM.out]; rfl)
                exact ⟨.slice none 0 0, by rw [hb]; rfl, by rw [hb]; exact World.ownsRow_nil _ _ _ _, HB.out⟩
              | false =>
                go_wp2_with (first
                  | (go_at_call 40; refine (HNM.out _).mono ?_; rintro e w' ⟨rfl, hw⟩; subst w')
                  | (refine wpL_one (.tmp 56) rfl rfl p _ _ rfl rfl rfl ?_)
                  | (at_builtin; refine wpList_append_known rfl (.tmp 55) (.tmp 57) 31 rfl _ _ _ _ rfl rfl HR4.out ?_))
                go_roundw
                case rel => exact ⟨L ++ [p], k + 1, k + 1, by rw [← HW2.out], by rw [← HW2.out], Hid.mk ⟨HGOOD.out (by rw [HM.out]; rfl), by rw [List.length_append]; exact HO4.out, HB4.out⟩⟩
                case measure =>
                  obtain ⟨_, _, _, _⟩ := HF.out
                  simp [intOf]; omega
        · have hge : ¬ (k : Int) < s.size := by omega
          have hge2 : (s.size : Int) ≤ k := by omega
          clear hQ hO hB hfk hf1 hkN hle h47 HK hw2 hA hp hr4 ho4 hon4 heq
          cases nb with
          | false =>
            go_wp2_with (first
              | (go_at_call 40; refine (HNM.out _).mono ?_; rintro e w' ⟨rfl, hw⟩; subst w')
              | (refine wpL_one (.tmp 56) rfl rfl p _ _ rfl rfl rfl ?_)
              | (at_builtin; refine wpList_append_known rfl (.tmp 55) (.tmp 57) 31 rfl _ _ _ _ rfl rfl HR4.out ?_))
            go_ret2
            have hb := HBAD.out (by rw [HM.out]; rfl)
            exact ⟨.slice none 0 0, by rw [hb]; rfl, by rw [hb]; exact World.ownsRow_nil _ _ _ _, HB.out⟩
          | true =>
            cases d1 with
            | true =>
              go_wp2_with (first
                | (go_at_call 40; refine (HNM.out _).mono ?_; rintro e w' ⟨rfl, hw⟩; subst w')
                | (refine wpL_one (.tmp 56) rfl rfl p _ _ rfl rfl rfl ?_)
                | (at_builtin; refine wpList_append_known rfl (.tmp 55) (.tmp 57) 31 rfl _ _ _ _ rfl rfl HR4.out ?_))
              go_ret2
              have hb := HBAD.out (by rw [HM.out]; rfl)
              exact ⟨.slice none 0 0, by rw [hb]; rfl, by rw [hb]; exact World.ownsRow_nil _ _ _ _, HB.out⟩
            | false =>
              cases d2 with
              | true =>
                go_wp2_with (first
                  | (go_at_call 40; refine (HNM.out _).mono ?_; rintro e w' ⟨rfl, hw⟩; subst w')
                  | (refine wpL_one (.tmp 56) rfl rfl p _ _ rfl rfl rfl ?_)
                  | (at_builtin; refine wpList_append_known rfl (.tmp 55) (.tmp 57) 31 rfl _ _ _ _ rfl rfl HR4.out ?_))
                go_ret2
                have hb := HBAD.out (by rw [HM.out]; rfl)
                exact ⟨.slice none 0 0, by rw [hb]; rfl, by rw [hb]; exact World.ownsRow_nil _ _ _ _, HB.out⟩
              | false =>
                go_wp2_with (first
                  | (go_at_call 40; refine (HNM.out _).mono ?_; rintro e w' ⟨rfl, hw⟩; subst w')
                  | (refine wpL_one (.tmp 56) rfl rfl p _ _ rfl rfl rfl ?_)
                  | (at_builtin; refine wpList_append_known rfl (.tmp 55) (.tmp 57) 31 rfl _ _ _ _ rfl rfl HR4.out ?_))
                go_roundw
                case rel => exact ⟨L ++ [p], k + 1, k + 1, by rw [← HW2.out], by rw [← HW2.out], Hid.mk ⟨HGOOD.out (by rw [HM.out]; rfl), by rw [List.length_append]; exact HO4.out, HB4.out⟩⟩
                case measure =>
                  obtain ⟨_, _, _, _⟩ := HF.out
                  simp [intOf]; omega
    · have hgt : ¬ (k : Int) ≤ s.size := by omega
      have hgt2 : (s.size : Int) < k := by omega
      have HD : Hid (splitL (ofS s) = some L) := Hid.mk (hQ.done (by rw [HLS.out]; exact hle) HL.out HR0.out (by rw [HLS.out]; exact HR.out))
      have HO := Hid.mk hO
      have HB := Hid.mk hB
      clear hQ hO hB hfk hf1 hkN hle HK
      go_wp2
      go_ret2
      exact ⟨u4, by rw [HD.out]; rfl, by rw [HD.out]; exact HO.out, HB.out⟩

set_option maxHeartbeats 1000000 in
/-- The reference's Split, at every string. -/
theorem rsplit_any (w : World) (s : ByteArray) (hs : s.size ≤ 16777216) :
    Calls Try.prog 24 #[.string s] w fun e w' => ∃ v, e = .returned (.tuple #[v, .bool (splitL (ofS s)).isSome]) ∧ w'.ownsRow w.heap.size 9 1 v (splL (splitL (ofS s))).length (Sy (splL (splitL (ofS s)))) ∧ Below w.heap.size w w' := by
  have HLS := Hid.mk (ofS_length s)
  have HE : Hid (s.toList.isEmpty = decide (s.size = 0)) := Hid.mk (nm_empty s)
  cases hl : ofS s with
  | nil =>
    have h0 : s.size = 0 := by rw [← HLS.out, hl]; rfl
    have h1 : s.toList.isEmpty = true := by rw [HE.out]; exact decide_eq_true h0
    go_enter Try.func24, Try.ntmps24
    go_wp2
    go_ret2
    exact ⟨.slice none 0 0, rfl, World.ownsRow_nil _ _ _ _, Below.refl _ _⟩
  | cons c r =>
    rw [← hl]
    have hsz : s.size = r.length + 1 := by rw [← HLS.out, hl]; rfl
    have h0 : 0 < s.size := by omega
    have h1 : s.toList.isEmpty = false := by rw [HE.out]; exact decide_eq_false (by omega)
    have hat : ((s[0]'h0).toNat : Int) = c.toNat := by
      rw [nm_at s 0 h0]
      show ((ofS s).map (fun u => (u.toNat : Int))).getD 0 0 = _
      rw [hl]
      rfl
    by_cases hc : c = 47
    · subst hc
      have h3 : (s[0]'h0).toNat = 47 := by
        have e : UInt8.toNat 47 = 47 := rfl
        omega
      by_cases hr : s.size ≤ 500
      · by_cases hr0 : r = []
        · subst hr0
          have h2 : (s.toList == [47]) = true := by
            have := strB (ofS s) [47]
            rw [mk_of] at this
            rw [this, hl]
            exact decide_eq_true rfl
          have h5 : (s.size : Int) ≤ 500 := by omega
          rw [hl]
          clear hat hsz hs HLS HE hl
          go_enter Try.func24, Try.ntmps24
          go_wp2
          go_ret2
          exact ⟨.slice none 0 0, rfl, World.ownsRow_nil _ _ _ _, Below.refl _ _⟩
        · exact rsplit_in w s r hl hr0 hr
      · have h5 : ¬ (s.size : Int) ≤ 500 := by omega
        have h6 : (500 : Int) < s.size := by omega
        have hn : splitL (ofS s) = none := split_long (by rw [HLS.out]; omega)
        rw [hn]
        clear hat hsz HLS HE hl hn
        go_enter Try.func24, Try.ntmps24
        go_wp2
        go_ret2
        exact ⟨.slice none 0 0, rfl, World.ownsRow_nil _ _ _ _, Below.refl _ _⟩
    · have hne : ¬ (s[0]'h0).toNat = 47 := fun e => hc (by
        apply UInt8.toNat_inj.1
        have : c.toNat = 47 := by omega
        rw [this]; rfl)
      have hne2 : (((s[0]'h0).toNat : Int) == 47) = false := by simp; omega
      have hn : splitL (ofS s) = none := by rw [hl]; simp [splitL, hc]
      rw [hn]
      clear hat hsz HLS HE hl hn hc
      go_enter Try.func24, Try.ntmps24
      go_wp2
      go_ret2
      exact ⟨.slice none 0 0, rfl, World.ownsRow_nil _ _ _ _, Below.refl _ _⟩
end Go.Proofs.Ytbahbhaoimabdaa
