/-
  The runs of places at which two rows of bytes are unlike: unlike.
-/
import Derived.Test.YtjljklfahmjngaaPaLap
import Derived.Test.YtjljklfahmjngaaPaRange
import Derived.LoopIn
import Derived.BigRegionIn
import Derived.BigFrameIn
import Derived.Sort.BigQuietIn
namespace Go.Proofs.Ytjljklfahmjngaa
open Go Go.Proofs Go.RowKit Go.Shelf
attribute [local go_sem] Oper.semAt_some
/-- Where the run ends that holds the place ahead of e. -/
def endN (N : Nat) (u : Nat → Bool) (e : Nat) : Nat := if h : e < N ∧ u e = true then endN N u (e + 1) else e
termination_by N - e
theorem endN_step {N : Nat} {u : Nat → Bool} {e : Nat} (h1 : e < N) (h2 : u e = true) : endN N u e = endN N u (e + 1) := by
  rw [endN, dif_pos ⟨h1, h2⟩]
theorem endN_stop {N : Nat} {u : Nat → Bool} {e : Nat} (h : ¬ (e < N ∧ u e = true)) : endN N u e = e := by
  rw [endN, dif_neg h]
theorem endN_le (N : Nat) (u : Nat → Bool) (e : Nat) : e ≤ endN N u e := by
  induction e using endN.induct N u with
  | case1 e h ih => rw [endN_step h.1 h.2]; omega
  | case2 e h => rw [endN_stop h]; exact Nat.le_refl _
theorem endN_ge (N : Nat) (u : Nat → Bool) (e : Nat) (h0 : e ≤ N) : endN N u e ≤ N := by
  induction e using endN.induct N u with
  | case1 e h ih => rw [endN_step h.1 h.2]; exact ih h.1
  | case2 e h => rw [endN_stop h]; exact h0
theorem endN_all (N : Nat) (u : Nat → Bool) (e k : Nat) (h1 : e ≤ k) (h2 : k < endN N u e) : u k = true := by
  induction e using endN.induct N u with
  | case1 e h ih =>
    by_cases hk : k = e
    · rw [hk]; exact h.2
    · rw [endN_step h.1 h.2] at h2
      exact ih (by omega) h2
  | case2 e h => rw [endN_stop h] at h2; omega
theorem endN_end (N : Nat) (u : Nat → Bool) (e : Nat) : ¬ (endN N u e < N ∧ u (endN N u e) = true) := by
  induction e using endN.induct N u with
  | case1 e h ih => rw [endN_step h.1 h.2]; exact ih
  | case2 e h => rw [endN_stop h]; exact h
/-- The longest runs of places from a on at which u holds: the first place of each, and the one behind its last. -/
def runsN (N : Nat) (u : Nat → Bool) (a : Nat) : List (Nat × Nat) :=
  if h : a < N then
    if u a = true then (a, endN N u (a + 1)) :: runsN N u (endN N u (a + 1) + 1) else runsN N u (a + 1)
  else []
termination_by N - a
decreasing_by
  · have := endN_le N u (a + 1); omega
  · omega
theorem runs_no {N : Nat} {u : Nat → Bool} {a : Nat} (h : a < N) (hu : u a = false) : runsN N u a = runsN N u (a + 1) := by
  rw [runsN, dif_pos h, if_neg (by simp [hu])]
theorem runs_yes {N : Nat} {u : Nat → Bool} {a : Nat} (h : a < N) (hu : u a = true) : runsN N u a = (a, endN N u (a + 1)) :: runsN N u (endN N u (a + 1) + 1) := by
  rw [runsN, dif_pos h, if_pos hu]
theorem runs_end {N : Nat} {u : Nat → Bool} {a : Nat} (h : ¬ a < N) : runsN N u a = [] := by
  rw [runsN, dif_neg h]
def unB (xs ys : List Int) (k : Nat) : Bool := !decide (xs.getD k 0 = ys.getD k 0)
def runV (R : List (Nat × Nat)) (k : Nat) : Array Value := #[.int .i64 ((R.getD k (0, 0)).1 : Nat), .int .i64 ((R.getD k (0, 0)).2 : Nat)]
def ptA (b : Nat) : Value := .pointer (some ⟨b, 0, none⟩)
def unlikeV (B : Nat) : Value := .func (.func 39) #[] #[ptA B, ptA (B + 1)]
set_option maxRecDepth 100000 in
theorem unlike_any (w : World) (v u : Value) (hv : ∃ ao n c, v = .slice ao n c) (hu : ∃ ao n c, u = .slice ao n c) : Calls Try.prog 30 #[v, u] w fun e w' => e = .returned (unlikeV w.heap.size) ∧ w' = (w.alloc (.cells #[v] 22)).alloc (.cells #[u] 22) := by
  obtain ⟨ao, n, c, rfl⟩ := hv
  obtain ⟨bo, m, d, rfl⟩ := hu
  go_enter Try.func30, Try.ntmps30
  go_wp2
  go_ret
  exact ⟨rfl, rfl⟩
theorem drewN_grown (w : World) (k : Nat) : w.grownBy (w.drewN k) none := ⟨rfl, rfl, rfl, Nat.le_refl _, fun _ _ _ => rfl⟩
set_option maxRecDepth 100000 in
set_option maxHeartbeats 4000000 in
theorem unlike1_in (n : Nat) (hn : 1 ≤ n) (l B : Nat) (ao bo : Option Addr) (N c d : Nat) (xs ys : List Int) (hN : N ≤ 1000000000) (J : Nat → World → Prop) (Jx : World → Prop) (W : World)
    (hJ : ∀ k A B, J k A → A.grownBy B none → J k B)
    (hc : ∀ k A, J k A → A.cell? ⟨B, 0, none⟩ = some (.slice ao N c) ∧ A.cell? ⟨B + 1, 0, none⟩ = some (.slice bo N d) ∧ BAt A ao N xs ∧ BAt A bo N ys)
    (hY : ∀ k A, J k A → k < (runsN N (unB xs ys) 0).length → YieldAt Fence.wide (n - 1) Try.prog l (runV (runsN N (unB xs ys) 0) k) A fun e W' => (e = .returned (.bool true) ∧ J (k + 1) W') ∨ (e = .returned (.bool false) ∧ Jx W')) (h0 : J 0 W) :
    CallsIn Fence.wide n Try.prog 39 #[.func (.yield l) #[] #[], ptA B, ptA (B + 1)] W fun e W' => (∃ v, e = .returned v) ∧ (J (runsN N (unB xs ys) 0).length W' ∨ Jx W') := by
  have HC := Hid.mk hc
  have HY := Hid.mk hY
  have HJ := Hid.mk hJ
  have HM := Hid.mk hN
  clear hc hY hN hJ
  obtain ⟨R, hR⟩ : ∃ R, R = runsN N (unB xs ys) 0 := ⟨_, rfl⟩
  rw [← hR] at HY ⊢
  unfold ptA
  refine callsIn_of_wp Try.func39 rfl trivial ?_ rfl
  simp only [Try.ntmps39, List.size_toArray, List.length_cons, List.length_nil, Nat.reduceAdd, Nat.reduceSub, Array.replicate_succ, Array.replicate_zero, List.push_toArray, List.append_toArray, List.nil_append, List.cons_append]
  gi_wp2
  gi_loopw [4, 5] (fun v _ wr => ∃ a k : Nat, v = .int .i64 a ∧ Hid (a ≤ N + 1 ∧ k ≤ R.length ∧ R.drop k = runsN N (unB xs ys) a ∧ J k wr)) (fun v _ _ => N + 1 - (intOf v).toNat)
  case atStart => exact ⟨0, 0, rfl, Hid.mk ⟨Nat.zero_le _, Nat.zero_le _, by rw [List.drop_zero, hR], h0⟩⟩
  case round =>
    obtain ⟨a, k, rfl, HK⟩ := hrel
    clear hR h0
    obtain ⟨c1, c2, b1, b2⟩ := HC.out _ wr HK.out.2.2.2
    by_cases hlt : a < N
    · obtain ⟨p1, rfl, x1⟩ := b1.at a hlt
      obtain ⟨p2, rfl, x2⟩ := b2.at a hlt
      have hlt' : (a : Int) < (N : Int) := by omega
      have u1 : IntKind.i64.wrap ((a : Int) + 1) = ((a + 1 : Nat) : Int) := by have := HM.out; rw [IntKind.wrap_i64]; omega
      have HB1 := Hid.mk b1
      have HB2 := Hid.mk b2
      clear b1 b2
      by_cases he : unB xs ys a = true
      · have he' : ¬ xs.getD a 0 = ys.getD a 0 := by unfold unB at he; simpa using he
        obtain ⟨E, hE⟩ : ∃ E, E = endN N (unB xs ys) (a + 1) := ⟨_, rfl⟩
        have HE := Hid.mk hE
        have hr := runs_yes hlt he
        have hl1 : a + 1 ≤ E := by rw [hE]; exact endN_le _ _ _
        have hl2 : E ≤ N := by rw [hE]; exact endN_ge _ _ _ (by omega)
        have hd := HK.out.2.2.1
        rw [hr, ← hE] at hd
        have hkR : k < R.length := by
          rcases Nat.lt_or_ge k R.length with h | h
          · exact h
          · rw [List.drop_eq_nil_of_le h] at hd; cases hd
        have hat : R.getD k (0, 0) = (a, E) := by
          have : R[k]? = some (a, E) := by rw [← List.head?_drop, hd]; rfl
          simp [List.getD, this]
        have hd2 : R.drop (k + 1) = runsN N (unB xs ys) (E + 1) := by rw [← List.tail_drop, hd]; rfl
        have HYK : Hid (∀ W4 : World, wr.grownBy W4 none → YieldAt Fence.wide (n - 1) Try.prog l #[.int .i64 a, .int .i64 E] W4 fun e W' => ∃ b : Bool, e = .returned (.bool b) ∧ Hid ((b = true ∧ J (k + 1) W') ∨ (b = false ∧ Jx W'))) := Hid.mk (fun W4 h4 => by
          have h1 := HY.out k W4 (HJ.out _ _ _ HK.out.2.2.2 h4) hkR
          unfold runV at h1
          rw [hat] at h1
          exact h1.mono (fun e W' h => h.elim (fun h => ⟨true, h.1, .inl ⟨rfl, h.2⟩⟩) (fun h => ⟨false, h.1, .inr ⟨rfl, h.2⟩⟩)))
        have HFIN : Hid (E + 1 ≤ N + 1 ∧ a < E + 1 ∧ k + 1 ≤ R.length ∧ R.drop (k + 1) = runsN N (unB xs ys) (E + 1)) := Hid.mk ⟨by omega, by omega, hkR, hd2⟩
        have HLT := Hid.mk hlt
        have hne : ¬ ys.getD a 0 = xs.getD a 0 := fun h => he' h.symm
        clear hd hd2 hkR hat hr hE HK HY HC he hl1 hl2
        generalize hx0 : xs.getD a 0 = x at x1 hne he'
        generalize hy0 : ys.getD a 0 = y at x2 hne he'
        clear hx0 hy0
        gi_wp2
        gi_big_quiet_th (fail)
        gi_wp2
        gi_loopw [5] (fun v wq => ∃ t q : Nat, v = .int .i64 t ∧ wq = wr.drewN q ∧ Hid (a + 1 ≤ t ∧ t ≤ N ∧ endN N (unB xs ys) t = E)) (fun v _ => N - (intOf v).toNat)
        case atStart => exact ⟨a + 1, nq, rfl, rfl, Hid.mk ⟨Nat.le_refl _, HLT.out, HE.out.symm⟩⟩
        case round =>
          obtain ⟨t, q, rfl, rfl, HT⟩ := hrel
          clear x1 x2 hne he' HE
          by_cases g0 : t < N
          · obtain ⟨p3, e3, x1⟩ := HB1.out.at t g0
            obtain ⟨p4, e4, x2⟩ := HB2.out.at t g0
            cases e3
            cases e4
            have g0' : (t : Int) < (N : Int) := by omega
            have u2 : IntKind.i64.wrap ((t : Int) + 1) = ((t + 1 : Nat) : Int) := by have := HM.out; rw [IntKind.wrap_i64]; omega
            have y1 : (wr.drewN q).cell? (p1.add t) = some (.int .u8 (xs.getD t 0)) := x1
            have y2 : (wr.drewN q).cell? (p2.add t) = some (.int .u8 (ys.getD t 0)) := x2
            have d1 : (wr.drewN q).cell? ⟨B, 0, none⟩ = some (.slice (some p1) N c) := c1
            have d2 : (wr.drewN q).cell? ⟨B + 1, 0, none⟩ = some (.slice (some p2) N d) := c2
            have hdN : decide (t < N) = true := decide_eq_true g0
            by_cases ge : unB xs ys t = true
            · have ge' : ¬ xs.getD t 0 = ys.getD t 0 := by unfold unB at ge; simpa using ge
              have HT2 : Hid (a + 1 ≤ t + 1 ∧ t + 1 ≤ N ∧ endN N (unB xs ys) (t + 1) = E) := Hid.mk ⟨by have := HT.out.1; omega, g0, by rw [← endN_step g0 ge]; exact HT.out.2.2⟩
              have HG := Hid.mk g0
              clear HT ge
              generalize xs.getD t 0 = x at x1 y1 ge'
              generalize ys.getD t 0 = y at x2 y2 ge'
              gi_wp2
              gi_big_quiet_th (fail)
              gi_wp2
              refine ⟨⟨t + 1, _, rfl, rfl, HT2⟩, ?_⟩
              have := HG.out
              simp [intOf]
              omega
            · have ge' : xs.getD t 0 = ys.getD t 0 := by unfold unB at ge; simpa using ge
              have HTE : Hid (t = E) := Hid.mk (by have := HT.out.2.2; rwa [endN_stop (by simp [ge])] at this)
              rw [← ge'] at y2 x2
              clear HT ge ge'
              generalize xs.getD t 0 = x at x1 y1 x2 y2
              gi_wp2
              gi_big_quiet_th (fail)
              have u3 : IntKind.i64.wrap ((t : Int) + 1) = ((t + 1 : Nat) : Int) := u2
              obtain rfl := HTE.out
              obtain ⟨fn, tmps, assign, body, hy, hR⟩ := HYK.out (wr.drewN (q + nq)) (drewN_grown _ _)
              have HR := Hid.mk hR
              clear hR HYK
              gi_wp2_with (first | (refine HR.out.mono ?_; rintro e W4 ⟨b, rfl, HCC⟩) | (refine ⟨trivial, ?_⟩; refine HR.out.mono ?_; rintro e W4 ⟨b, rfl, HCC⟩))
              · have hb : b = false := by
                  rename_i h
                  simpa using h
                have hx : Jx W4 := by simpa [Hid, hb] using HCC
                refine bodyPost_ret (results_none rfl _ _ _) rfl ?_
                exact ⟨⟨_, rfl⟩, .inr hx⟩
              · have hb : b = true := by
                  rename_i h
                  simpa using h
                have hj : J (k + 1) W4 := by simpa [Hid, hb] using HCC
                obtain ⟨f1, f2, f3, f4⟩ := HFIN.out
                refine ⟨⟨t + 1, k + 1, rfl, Hid.mk ⟨f1, f3, f4, hj⟩⟩, ?_⟩
                simp [intOf]
                omega
          · have HTE : Hid (t = E) := Hid.mk (by have := HT.out.2.2; rwa [endN_stop (by simp [g0])] at this)
            have htN : t = N := by have := HT.out.2.1; omega
            have u3 : IntKind.i64.wrap ((t : Int) + 1) = ((t + 1 : Nat) : Int) := by have := HM.out; rw [IntKind.wrap_i64]; omega
            have d1 : (wr.drewN q).cell? ⟨B, 0, none⟩ = some (.slice (some p1) N c) := c1
            have d2 : (wr.drewN q).cell? ⟨B + 1, 0, none⟩ = some (.slice (some p2) N d) := c2
            have hdN : decide (t < N) = false := decide_eq_false g0
            clear HT htN
            gi_wp2
            gi_big_quiet_th (fail)
            obtain rfl := HTE.out
            obtain ⟨fn, tmps, assign, body, hy, hR⟩ := HYK.out (wr.drewN (q + nq)) (drewN_grown _ _)
            have HR := Hid.mk hR
            clear hR HYK
            gi_wp2_with (first | (refine HR.out.mono ?_; rintro e W4 ⟨b, rfl, HCC⟩) | (refine ⟨trivial, ?_⟩; refine HR.out.mono ?_; rintro e W4 ⟨b, rfl, HCC⟩))
            · have hb : b = false := by
                rename_i h
                simpa using h
              have hx : Jx W4 := by simpa [Hid, hb] using HCC
              refine bodyPost_ret (results_none rfl _ _ _) rfl ?_
              exact ⟨⟨_, rfl⟩, .inr hx⟩
            · have hb : b = true := by
                rename_i h
                simpa using h
              have hj : J (k + 1) W4 := by simpa [Hid, hb] using HCC
              obtain ⟨f1, f2, f3, f4⟩ := HFIN.out
              refine ⟨⟨t + 1, k + 1, rfl, Hid.mk ⟨f1, f3, f4, hj⟩⟩, ?_⟩
              simp [intOf]
              omega
      · have he' : xs.getD a 0 = ys.getD a 0 := by unfold unB at he; simpa using he
        have HK2 : Hid (a + 1 ≤ N + 1 ∧ k ≤ R.length ∧ R.drop k = runsN N (unB xs ys) (a + 1) ∧ J k wr) := Hid.mk ⟨by omega, HK.out.2.1, by rw [← runs_no hlt (by simpa using he)]; exact HK.out.2.2.1, HK.out.2.2.2⟩
        have HLT := Hid.mk hlt
        rw [← he'] at x2
        generalize xs.getD a 0 = x at x1 x2
        clear HK he he' HC HY
        gi_wp2
        gi_big_quiet_th (fail)
        gi_wp2
        refine ⟨⟨a + 1, k, rfl, Hid.mk ⟨HK2.out.1, HK2.out.2.1, HK2.out.2.2.1, HJ.out _ _ _ HK2.out.2.2.2 (drewN_grown _ _)⟩⟩, ?_⟩
        have := HLT.out
        simp [intOf]
        omega
    · have hk : k = R.length := by
        have h1 := HK.out.2.2.1
        rw [runs_end hlt] at h1
        have := congrArg List.length h1
        simp at this
        have := HK.out.2.1
        omega
      subst hk
      have HJ9 := Hid.mk HK.out.2.2.2
      have hlt' : ¬ (a : Int) < (N : Int) := by omega
      clear HC HY b1 b2 HK
      gi_wp2
      go_end0
      exact ⟨⟨_, rfl⟩, .inl HJ9.out⟩
end Go.Proofs.Ytjljklfahmjngaa
