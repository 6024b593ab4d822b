/-
  The reference's Put: a number into a rising row.
-/
import Derived.Test.YtoediflikoedaaaLkRs
namespace Go.Proofs.Ytoediflikoedaaa
open Go Go.Proofs Go.RowKit Go.Shelf
attribute [local go_sem] Oper.semAt_some
/-- append(v, y...), v a row of one's own. -/
theorem appIs {W : World} {B : Nat} {v : Value} {xs : List Int} (hown : W.ownsRow B 3 1 v xs.length (Iy xs)) (hB : B ≤ W.heap.size) {ao : Option Addr} {m c : Nat} {ys : List Int} (hb : LAt W ao m ys) (h0 : ao = none → c = 0) (hn : xs.length + m ≤ 16777216) :
    ∃ v' W', (Builtin.append_ #[39, 39] 39 #[v, .slice ao m c]).run Try.prog W = .ok v' W' ∧ W'.ownsRow B 3 1 v' (xs ++ ys).length (Iy (xs ++ ys)) ∧ W.grownBy W' v.ownBlock := by
  obtain ⟨i0, hi, hz0, hz1, hz2⟩ := info3p
  cases ao with
  | none =>
    have hm : m = 0 := by
      rcases Nat.eq_zero_or_pos m with q | q
      · exact q
      · obtain ⟨a, e, _⟩ := hb.2 q
        cases e
    subst hm
    obtain rfl := h0 rfl
    obtain rfl : ys = [] := List.eq_nil_of_length_eq_zero hb.1
    refine ⟨v, W, run_append_owned_none (P := Try.prog) (w := W) B 39 39 3 i0 1 Try.underlying39 hi v _ _ hown, by simpa using hown, ⟨rfl, rfl, rfl, Nat.le_refl _, fun _ _ _ => rfl⟩⟩
  | some a =>
    obtain ⟨v3, W3, hr, hown3, hg3, _⟩ := run_append_own (P := Try.prog) W B 39 39 3 i0 (.int .i64 0) 1 8 Try.underlying39 hi hz0 hz1 hz2 rfl (by decide) v xs.length (Iy xs) hown a m c (Iy ys) (by rw [Iy_length, hb.1, Nat.mul_one]) (fun j u hj => by
        have hjl := (List.getElem?_eq_some_iff.1 hj).1
        rw [Iy_length] at hjl
        rw [Iy_get ys j hjl] at hj
        obtain ⟨a', e, hc⟩ := hb.at j (by rw [← hb.1]; exact hjl)
        cases e
        rw [hc]
        exact hj) (Iy_one ys) (by unfold maxLen; omega) (by omega) hB
    have e : Iy xs ++ Iy ys = Iy (xs ++ ys) := by simp [Iy]
    rw [e] at hown3
    exact ⟨v3, W3, hr, by rw [List.length_append, hb.1]; exact hown3, hg3⟩
/-- The four appends of Put, as they run. -/
theorem put_chain {w : World} {B k n : Nat} {S : List Int} (x : Int) (hB : B ≤ w.heap.size) (hn : S.length = n) (hm : n ≤ 1000000) (hk : k ≤ n) {a1 a2 : Option Addr} {c1 c2 : Nat} (h1 : LAt w a1 (n - k) (S.drop k)) (e1 : a1 = none → c1 = 0) (h2 : LAt w a2 k (S.take k)) (e2 : a2 = none → c2 = 0) :
    ∃ v1 W1 v2 W2 v3 W3 v4 W4, Hid ((Builtin.append_ #[39, 39] 39 #[.slice none 0 0, .slice a1 (n - k) c1]).run Try.prog w = .ok v1 W1) ∧ Hid ((Builtin.append_ #[39, 39] 39 #[.slice none 0 0, .slice a2 k c2]).run Try.prog W1 = .ok v2 W2) ∧ Hid ((Builtin.append_ #[39, 39] 39 #[v2, .slice (some ⟨W2.heap.size, 0, none⟩) 1 1]).run Try.prog (W2.alloc (.cells #[.int .i64 x] 3)) = .ok v3 W3) ∧ Hid ((Builtin.append_ #[39, 39] 39 #[v3, v1]).run Try.prog W3 = .ok v4 W4) ∧ Hid (W4.ownsRow B 3 1 v4 (S.take k ++ [x] ++ S.drop k).length (Iy (S.take k ++ [x] ++ S.drop k)) ∧ Below w.heap.size w W4) := by
  have ed : (S.drop k).length = n - k := by rw [List.length_drop, hn]
  have et : (S.take k).length = k := by rw [List.length_take, hn]; omega
  obtain ⟨v1, W1, r1, o1, g1⟩ := appIs (W := w) (B := w.heap.size) (v := .slice none 0 0) (xs := []) (World.ownsRow_nil _ _ _ _) (Nat.le_refl _) h1 e1 (by simp; omega)
  have b1 : Below w.heap.size w W1 := ((Only.refl (fun _ => False) w).grown g1 (fun k hk => by cases hk)).below (Nat.le_refl _) (fun _ q => q.elim)
  rw [List.nil_append] at o1
  obtain ⟨v2, W2, r2, o2, g2⟩ := appIs (W := W1) (B := W1.heap.size) (v := .slice none 0 0) (xs := []) (World.ownsRow_nil _ _ _ _) (Nat.le_refl _) (h2.next b1) e2 (by simp; omega)
  have b2 : Below W1.heap.size W1 W2 := ((Only.refl (fun _ => False) W1).grown g2 (fun k hk => by cases hk)).below (Nat.le_refl _) (fun _ q => q.elim)
  rw [List.nil_append] at o2
  obtain ⟨v3, W3, r3, o3, q3, _, _⟩ := appendI W2 W1.heap.size v2 (S.take k) x o2 b2.size (by omega)
  have b3 : Below W1.heap.size W1 W3 := b2.trans (q3.below b2.size (fun j hj => by
    rcases o2.2 with ⟨e, _⟩ | ⟨g, cap, cur, e, hg, _⟩
    · rw [e] at hj; cases hj
    · rw [e] at hj; cases hj; exact hg))
  obtain ⟨ao, c, e, hl1⟩ := owns_lat o1
  have ec : ao = none → c = 0 := fun q => by
    subst q
    rcases o1.2 with ⟨e', _⟩ | ⟨g, cap, cur, e', _⟩
    · rw [e] at e'; injection e'
    · rw [e] at e'
      have q1 := congrArg (fun v : Value => match v with | .slice z _ _ => z | _ => none) e'
      cases q1
  subst e
  obtain ⟨v4, W4, r4, o4, g4⟩ := appIs (W := W3) (B := W1.heap.size) (v := v3) o3 b3.size (hl1.next b3) ec (by rw [List.length_append, ed, et]; simp; omega)
  have b4 : Below W1.heap.size W3 W4 := ((Only.refl (fun j => W1.heap.size ≤ j) W3).grown g4 (fun j hj => .inl (by
    rcases o3.2 with ⟨e, _⟩ | ⟨g, cap, cur, e, hg, _⟩
    · rw [e] at hj; cases hj
    · rw [e] at hj; cases hj; exact hg))).below b3.size (fun _ q => q)
  refine ⟨_, W1, v2, W2, v3, W3, v4, W4, Hid.mk r1, Hid.mk r2, Hid.mk r3, Hid.mk r4, Hid.mk ⟨?_, b1.trans ((b3.trans b4).mono b1.size)⟩⟩
  rcases o4 with ⟨p1, p2 | ⟨g, cap, cur, q1, q2, q3⟩⟩
  · exact ⟨p1, .inl p2⟩
  · exact ⟨p1, .inr ⟨g, cap, cur, q1, Nat.le_trans hB (Nat.le_trans b1.size q2), q3⟩⟩
end Go.Proofs.Ytoediflikoedaaa
namespace Go.Proofs.Ytoediflikoedaaa
open Go Go.Proofs Go.RowKit Go.Shelf
attribute [local go_sem] Oper.semAt_some
theorem la_drop {w : World} {a : Addr} {n k : Nat} {S : List Int} (hn : S.length = n) (h : LAt w (some a) n S) : LAt w (some (a.add k)) (n - k) (S.drop k) := by
  refine ⟨by rw [List.length_drop, hn], fun q => ⟨_, rfl, ?_, fun i hi => ?_⟩⟩
  · obtain ⟨a', e, hb, _⟩ := h.2 (by omega)
    cases e
    rwa [add_block]
  · obtain ⟨a', e, hc⟩ := h.at (k + i) (by omega)
    cases e
    rw [add_add, hc]
    simp [List.getD, List.getElem?_drop]
theorem la_take {w : World} {a : Addr} {n k : Nat} {S : List Int} (hn : S.length = n) (h : LAt w (some a) n S) (hk : k ≤ n) : LAt w (some a) k (S.take k) := by
  refine ⟨by rw [List.length_take, hn]; omega, fun q => ?_⟩
  obtain ⟨a', e, hb, hc⟩ := h.2 (by omega)
  cases e
  refine ⟨_, rfl, hb, fun i hi => ?_⟩
  rw [hc i (by omega)]
  simp [List.getD, hi]
theorem la_none {w : World} {n : Nat} (S : List Int) (h : S.length = n) (hn : n = 0 := by rfl) : LAt w none n S := ⟨h, fun q => by omega⟩
theorem la_end {w : World} {a : Addr} {n k m : Nat} {S : List Int} (hn : S.length = n) (hk : n ≤ k) (hm : m = 0) : LAt w (some a) m (S.drop k) := ⟨by rw [List.length_drop, hn]; omega, fun q => by omega⟩
theorem ins_split {x : Int} (A Bs : List Int) (h : ∀ a ∈ A, a < x) : insS x (A ++ Bs) = A ++ insS x Bs := by
  induction A with
  | nil => rfl
  | cons a r ih =>
    have ha : a < x := h a (by simp)
    show (if x < a then x :: a :: (r ++ Bs) else if x = a then a :: (r ++ Bs) else a :: insS x (r ++ Bs)) = _
    rw [if_neg (by omega), if_neg (by omega), ih (fun b hb => h b (by simp [hb]))]
    rfl
theorem put_list {S : List Int} {x : Int} {k : Nat} (hk : k ≤ S.length) (h : ∀ j, j < k → S.getD j 0 < x) : (k = S.length ∨ x < S.getD k 0 → insS x S = S.take k ++ [x] ++ S.drop k) ∧ (k < S.length → S.getD k 0 = x → insS x S = S) := by
  have e0 : S = S.take k ++ S.drop k := (List.take_append_drop _ _).symm
  have hA : ∀ a ∈ S.take k, a < x := fun a ha => by
    obtain ⟨j, hj, e⟩ := List.getElem_of_mem ha
    rw [List.length_take] at hj
    have := h j (by omega)
    rw [← e, List.getElem_take]
    rwa [List.getD, List.getElem?_eq_getElem (by omega)] at this
  have e1 : insS x S = S.take k ++ insS x (S.drop k) := by conv => lhs; rw [e0]
                                                           exact ins_split _ _ hA
  refine ⟨fun q => ?_, fun q1 q2 => ?_⟩
  · rw [e1, List.append_assoc]
    congr 1
    rcases Nat.lt_or_ge k S.length with q1 | q1
    · rw [drop_get q1]
      have : x < S.getD k 0 := q.elim (fun e => by omega) id
      show (if x < S.getD k 0 then _ else _) = _
      rw [if_pos this]
      rfl
    · rw [List.drop_eq_nil_of_le q1]
      rfl
  · rw [e1]
    conv => rhs; rw [e0]
    congr 1
    rw [drop_get q1, q2]
    show (if x < x then _ else if x = x then _ else _) = _
    rw [if_neg (by omega), if_pos rfl]
set_option maxRecDepth 100000 in
set_option maxHeartbeats 600000 in
theorem put_any {w : World} {B : Nat} {v : Value} {S : List Int} (hown : w.ownsRow B 3 1 v S.length (Iy S)) (hB : B ≤ w.heap.size) (x : Int) (hn : S.length ≤ 1000000) : Calls Try.prog 37 #[v, .int .i64 x] w fun e w' => ∃ v', e = .returned v' ∧ Hid (w'.ownsRow B 3 1 v' (insS x S).length (Iy (insS x S)) ∧ Below w.heap.size w w') := by
  obtain ⟨ao, c, rfl, hl⟩ := owns_lat hown
  have HO := Hid.mk hown
  have HL := Hid.mk hl
  have HBB := Hid.mk hB
  obtain ⟨n, hnn⟩ : ∃ n, S.length = n := ⟨_, rfl⟩
  rw [hnn] at hn HL ⊢
  have HN := Hid.mk hnn
  have HCC : Hid ((∀ a, ao = some a → n ≤ c) ∧ (ao = none → n = 0 ∧ c = 0)) := Hid.mk (by
    rw [← hnn]
    rcases hown.2 with ⟨e, h0⟩ | ⟨g, cap, cur, e, _, _, hc, _⟩
    · have ea : ao = none := congrArg (fun v : Value => match v with | .slice z _ _ => z | _ => none) e
      have ec : c = 0 := congrArg (fun v : Value => match v with | .slice _ _ z => z | _ => 0) e
      exact ⟨fun a q => (by rw [ea] at q; cases q), fun _ => ⟨h0, ec⟩⟩
    · have ea : ao = some ⟨g, 0, none⟩ := congrArg (fun v : Value => match v with | .slice z _ _ => z | _ => none) e
      have ec : c = cap := congrArg (fun v : Value => match v with | .slice _ _ z => z | _ => 0) e
      exact ⟨fun _ _ => (by rw [ec]; exact hc), fun q => (by rw [ea] at q; cases q)⟩)
  clear hown hl hB hnn
  go_enter Try.func37, Try.ntmps37
  go_wp2
  go_loopw [5] (fun kv wr => ∃ k : Nat, kv = .int .i64 k ∧ Hid (wr = w ∧ k ≤ n ∧ ∀ j, j < k → S.getD j 0 < x)) (fun kv _ => n - (Go.RowKit.intOf kv).toNat)
  case atStart => exact ⟨0, rfl, Hid.mk ⟨rfl, Nat.zero_le _, fun j hj => by omega⟩⟩
  case round =>
    obtain ⟨k, rfl, HK0⟩ := hrel
    obtain ⟨ew, hk1, hk2⟩ := HK0.out
    subst ew
    have HK : Hid (k ≤ n ∧ ∀ j, j < k → S.getD j 0 < x) := Hid.mk ⟨hk1, hk2⟩
    have HPL := Hid.mk (put_list (S := S) (x := x) (k := k) (by rw [HN.out]; exact hk1) hk2)
    clear HK0 hk1 hk2
    by_cases hkl : (k : Int) < (n : Int)
    · have v1 : IntKind.i64.wrap ((k : Int) + 1) = ((k + 1 : Nat) : Int) := by rw [IntKind.wrap_i64]; omega
      have HKL : Hid (k < n) := Hid.mk (by omega)
      obtain ⟨a, rfl, d1⟩ := HL.out.at k HKL.out
      by_cases q1 : S.getD k 0 < x
      · have HT : Hid (∀ j, j < k + 1 → S.getD j 0 < x) := Hid.mk (fun j hj => by
          rcases Nat.lt_or_ge j k with q | q
          · exact HK.out.2 j q
          · obtain rfl : j = k := by omega
            exact q1)
        generalize S.getD k 0 = y at *
        clear HK
        go_wp2
        go_roundw
        case rel => exact ⟨k + 1, rfl, Hid.mk ⟨trivial, HKL.out, HT.out⟩⟩
        case measure => (have := HKL.out; simp [Go.RowKit.intOf]; omega)
      · have qd : decide (S.getD k 0 < x) = false := decide_eq_false q1
        by_cases q2 : S.getD k 0 = x
        · have HE := Hid.mk (HPL.out.2 (by rw [HN.out]; exact HKL.out) q2)
          have HO2 := HO.out
          rw [q2] at d1
          clear q1 q2 qd HK
          go_wp2
          go_ret
          exact ⟨_, rfl, Hid.mk ⟨by rw [HE.out]; rw [HN.out] at HO2; rw [HN.out]; exact HO2, Below.refl _ _⟩⟩
        · have q3 : (S.getD k 0 == x) = false := beq_eq_false_iff_ne.2 q2
          have HKN : Hid (k ≤ n) := Hid.mk (by have := HKL.out; omega)
          have HX : Hid (x < S.getD k 0) := Hid.mk (by omega)
          have hnc : (n : Int) ≤ (c : Int) := by have := HCC.out.1 a rfl; omega
          have hkc : ¬ (k : Int) = (c : Int) := by omega
          have hkc2 : (k : Int) ≤ (c : Int) := by omega
          have hkn : (k : Int) ≤ (n : Int) := by omega
          have u9 : ((n : Int) - (k : Int)).toNat = n - k := by omega
          generalize S.getD k 0 = y at q1 q2 qd q3 d1
          obtain ⟨v1, W1, v2, W2, v3, W3, v4, W4, HA1, HA2, HA3, HA4, HFI⟩ := put_chain (w := wr) (B := B) (k := k) (n := n) (S := S) (a1 := some (a.add k)) (c1 := c - k) (a2 := some a) (c2 := c) x HBB.out HN.out hn (by have := HKN.out; omega) (la_drop HN.out HL.out) (fun q => by cases q) (la_take HN.out HL.out (by have := HKN.out; omega)) (fun q => by cases q)
          have HE := Hid.mk (HPL.out.1 (.inr HX.out))
          clear HK HL HO HPL
          go_upto_region 6 with fail
          go_wp2_with (first
            | (at_builtin; refine wpList_append_known rfl _ _ _ rfl _ _ _ _ rfl rfl HA1.out ?_; simp only [Act.put, List.setIfInBounds_toArray, List.set_cons_zero, List.set_cons_succ]; clear HA1)
            | (at_builtin; refine wpList_append_known rfl _ _ _ rfl _ _ _ _ rfl rfl HA2.out ?_; simp only [Act.put, List.setIfInBounds_toArray, List.set_cons_zero, List.set_cons_succ]; clear HA2)
            | (at_builtin; refine wpList_append_known rfl _ _ _ rfl _ _ _ _ rfl rfl HA3.out ?_; simp only [Act.put, List.setIfInBounds_toArray, List.set_cons_zero, List.set_cons_succ]; clear HA3)
            | (at_builtin; refine wpList_append_known rfl _ _ _ rfl _ _ _ _ rfl rfl HA4.out ?_; simp only [Act.put, List.setIfInBounds_toArray, List.set_cons_zero, List.set_cons_succ]; clear HA4)
            | go_in)
          go_ret
          exact ⟨_, rfl, Hid.mk (by rw [HE.out]; exact HFI.out)⟩
    · have HKN : Hid (k = n) := Hid.mk (by have := HK.out.1; omega)
      cases ao with
      | none =>
        obtain ⟨e1, e2⟩ := HCC.out.2 rfl
        obtain rfl : k = 0 := by have := HKN.out; omega
        subst e1 e2
        obtain ⟨v1, W1, v2, W2, v3, W3, v4, W4, HA1, HA2, HA3, HA4, HFI⟩ := put_chain (w := wr) (B := B) (k := 0) (n := 0) (S := S) (a1 := none) (c1 := 0) (a2 := none) (c2 := 0) x HBB.out HN.out hn (Nat.le_refl _) (by simpa using la_none (S.drop 0) (by rw [List.length_drop, HN.out])) (fun _ => rfl) (la_none _ (by simp)) (fun _ => rfl)
        simp only [Nat.sub_self] at HA1
        have HE := Hid.mk (HPL.out.1 (.inl (by rw [HN.out])))
        clear HK HL HO HPL
        go_upto_region 6 with fail
        go_wp2_with (first
          | (at_builtin; refine wpList_append_known rfl _ _ _ rfl _ _ _ _ rfl rfl HA1.out ?_; simp only [Act.put, List.setIfInBounds_toArray, List.set_cons_zero, List.set_cons_succ]; clear HA1)
          | (at_builtin; refine wpList_append_known rfl _ _ _ rfl _ _ _ _ rfl rfl HA2.out ?_; simp only [Act.put, List.setIfInBounds_toArray, List.set_cons_zero, List.set_cons_succ]; clear HA2)
          | (at_builtin; refine wpList_append_known rfl _ _ _ rfl _ _ _ _ rfl rfl HA3.out ?_; simp only [Act.put, List.setIfInBounds_toArray, List.set_cons_zero, List.set_cons_succ]; clear HA3)
          | (at_builtin; refine wpList_append_known rfl _ _ _ rfl _ _ _ _ rfl rfl HA4.out ?_; simp only [Act.put, List.setIfInBounds_toArray, List.set_cons_zero, List.set_cons_succ]; clear HA4)
          | go_in)
        go_ret
        exact ⟨_, rfl, Hid.mk (by rw [HE.out]; exact HFI.out)⟩
      | some a =>
        have hnc : (n : Int) ≤ (c : Int) := by have := HCC.out.1 a rfl; omega
        have hkc2 : (k : Int) ≤ (c : Int) := by have := HKN.out; omega
        have hkn := HKN.out
        subst hkn
        by_cases hkc : k = c
        · subst hkc
          obtain ⟨v1, W1, v2, W2, v3, W3, v4, W4, HA1, HA2, HA3, HA4, HFI⟩ := put_chain (w := wr) (B := B) (k := k) (n := k) (S := S) (a1 := some a) (c1 := 0) (a2 := some a) (c2 := k) x HBB.out HN.out hn (Nat.le_refl _) (la_end HN.out (Nat.le_refl _) (by rw [Nat.sub_self])) (fun q => by cases q) (la_take HN.out HL.out (Nat.le_refl _)) (fun q => by cases q)
          simp only [Nat.sub_self] at HA1
          have HE := Hid.mk (HPL.out.1 (.inl HN.out.symm))
          clear HK HL HO HPL
          go_upto_region 6 with fail
          go_wp2_with (first
            | (at_builtin; refine wpList_append_known rfl _ _ _ rfl _ _ _ _ rfl rfl HA1.out ?_; simp only [Act.put, List.setIfInBounds_toArray, List.set_cons_zero, List.set_cons_succ]; clear HA1)
            | (at_builtin; refine wpList_append_known rfl _ _ _ rfl _ _ _ _ rfl rfl HA2.out ?_; simp only [Act.put, List.setIfInBounds_toArray, List.set_cons_zero, List.set_cons_succ]; clear HA2)
            | (at_builtin; refine wpList_append_known rfl _ _ _ rfl _ _ _ _ rfl rfl HA3.out ?_; simp only [Act.put, List.setIfInBounds_toArray, List.set_cons_zero, List.set_cons_succ]; clear HA3)
            | (at_builtin; refine wpList_append_known rfl _ _ _ rfl _ _ _ _ rfl rfl HA4.out ?_; simp only [Act.put, List.setIfInBounds_toArray, List.set_cons_zero, List.set_cons_succ]; clear HA4)
            | go_in)
          go_ret
          exact ⟨_, rfl, Hid.mk (by rw [HE.out]; exact HFI.out)⟩
        · have hkc3 : ¬ (k : Int) = (c : Int) := by omega
          obtain ⟨v1, W1, v2, W2, v3, W3, v4, W4, HA1, HA2, HA3, HA4, HFI⟩ := put_chain (w := wr) (B := B) (k := k) (n := k) (S := S) (a1 := some (a.add k)) (c1 := c - k) (a2 := some a) (c2 := c) x HBB.out HN.out hn (Nat.le_refl _) (la_drop HN.out HL.out) (fun q => by cases q) (la_take HN.out HL.out (Nat.le_refl _)) (fun q => by cases q)
          simp only [Nat.sub_self] at HA1
          have HE := Hid.mk (HPL.out.1 (.inl HN.out.symm))
          clear HK HL HO HPL
          go_upto_region 6 with fail
          go_wp2_with (first
            | (at_builtin; refine wpList_append_known rfl _ _ _ rfl _ _ _ _ rfl rfl HA1.out ?_; simp only [Act.put, List.setIfInBounds_toArray, List.set_cons_zero, List.set_cons_succ]; clear HA1)
            | (at_builtin; refine wpList_append_known rfl _ _ _ rfl _ _ _ _ rfl rfl HA2.out ?_; simp only [Act.put, List.setIfInBounds_toArray, List.set_cons_zero, List.set_cons_succ]; clear HA2)
            | (at_builtin; refine wpList_append_known rfl _ _ _ rfl _ _ _ _ rfl rfl HA3.out ?_; simp only [Act.put, List.setIfInBounds_toArray, List.set_cons_zero, List.set_cons_succ]; clear HA3)
            | (at_builtin; refine wpList_append_known rfl _ _ _ rfl _ _ _ _ rfl rfl HA4.out ?_; simp only [Act.put, List.setIfInBounds_toArray, List.set_cons_zero, List.set_cons_succ]; clear HA4)
            | go_in)
          go_ret
          exact ⟨_, rfl, Hid.mk (by rw [HE.out]; exact HFI.out)⟩
end Go.Proofs.Ytoediflikoedaaa
namespace Go.Proofs.Ytoediflikoedaaa
open Go Go.Proofs Go.RowKit Go.Shelf
attribute [local go_sem] Oper.semAt_some
def insL (L : List Lk) : List Int := L.foldl (fun S l => insS l.th S) []
theorem insL_len (L : List Lk) : (insL L).length ≤ L.length := by
  have key : ∀ (L : List Lk) (S : List Int), (L.foldl (fun S l => insS l.th S) S).length ≤ S.length + L.length := fun L => by
    induction L with
    | nil => intro S; simp
    | cons l r ih =>
      intro S
      have h1 := ih (insS l.th S)
      have h2 : (insS l.th S).length ≤ S.length + 1 := by
        clear h1 ih
        induction S with
        | nil => simp [insS]
        | cons y t ih2 =>
          unfold insS
          split
          · simp
          · split
            · simp
            · simp only [List.length_cons]; omega
      simp only [List.foldl_cons, List.length_cons]
      omega
  have := key L []
  simpa [insL] using this
theorem of_take {H : List Lk} {k : Nat} (hk : k < H.length) (tg : Int) : insL (ofT tg (H.take (k + 1))) = if (H.getD k Lk.zero).tg = tg then insS (H.getD k Lk.zero).th (insL (ofT tg (H.take k))) else insL (ofT tg (H.take k)) := by
  have e : H.take (k + 1) = H.take k ++ [H.getD k Lk.zero] := by
    rw [List.take_add_one, List.getElem?_eq_getElem hk]
    simp [List.getD, List.getElem?_eq_getElem hk]
  rw [e]
  unfold ofT insL
  rw [List.filter_append, List.foldl_append]
  by_cases q : (H.getD k Lk.zero).tg = tg
  · rw [if_pos q, List.filter_cons_of_pos (p := fun l : Lk => l.tg == tg) (a := H.getD k Lk.zero) (beq_iff_eq.2 q)]
    rfl
  · rw [if_neg q, List.filter_cons_of_neg (p := fun l : Lk => l.tg == tg) (a := H.getD k Lk.zero) (by rw [beq_iff_eq]; exact q)]
    rfl
set_option maxRecDepth 100000 in
set_option maxHeartbeats 2000000 in
theorem rholders_any {F : Nat → Prop} {w : World} {r : Nat} {R : Rf} (h : RfAt F w r R) (tg : Int) (hn : R.held.length ≤ 1000000) : Calls Try.prog 22 #[ptV r, .int .i64 tg] w fun e w' => ∃ v, e = .returned v ∧ Hid (w'.ownsRow w.heap.size 3 1 v (R.holders tg).length (Iy (R.holders tg)) ∧ Below w.heap.size w w') := by
  obtain ⟨H, L⟩ := R
  have eR : (⟨H, L⟩ : Rf).holders tg = insL (ofT tg H) := rfl
  rw [eR]
  simp only at hn
  obtain ⟨n, hnn⟩ : ∃ n, H.length = n := ⟨_, rfl⟩
  have HN := Hid.mk hnn
  have HRF := Hid.mk h
  rw [hnn] at hn
  clear h eR hnn
  go_enter Try.func22, Try.ntmps22
  go_wp2
  go_loopw [5, 6] (fun ov kv wr => ∃ k : Nat, kv = .int .i64 k ∧ Hid (Below w.heap.size w wr ∧ k ≤ n ∧ wr.ownsRow w.heap.size 3 1 ov (insL (ofT tg (H.take k))).length (Iy (insL (ofT tg (H.take k)))))) (fun _ kv _ => n - (Go.RowKit.intOf kv).toNat)
  case atStart => exact ⟨0, rfl, Hid.mk ⟨Below.refl _ _, Nat.zero_le _, World.ownsRow_nil _ _ _ _⟩⟩
  case round =>
    obtain ⟨k, rfl, HK⟩ := hrel
    obtain ⟨ao, c, d0, hS⟩ : ∃ ao c, wr.cell? ⟨r, 0, none⟩ = some (.slice ao n c) ∧ SlOk wr (.slice ao n c) H := by
      obtain ⟨vH, vR, h1, h3, _⟩ := HRF.out.below HK.out.1
      obtain ⟨ao, c, rfl, _⟩ := sl_len h3
      have e := HN.out
      rw [e] at h1 h3
      exact ⟨ao, c, by rw [blk_cell h1]; rfl, h3⟩
    have HS := Hid.mk hS
    clear hS
    by_cases hkl : (k : Int) < (n : Int)
    · have v1 : IntKind.i64.wrap ((k : Int) + 1) = ((k + 1 : Nat) : Int) := by rw [IntKind.wrap_i64]; omega
      have HKL : Hid (k < n ∧ k < H.length) := Hid.mk (by have := HN.out; omega)
      obtain ⟨gg, off, rfl, _, d1, d2, d3⟩ := sl_at HS.out HKL.out.1
      have e8 : (⟨gg, off, none⟩ : Addr).add (k * 3) = ⟨gg, off + k * 3, none⟩ := by rw [add_at]
      have HT := Hid.mk (of_take HKL.out.2 tg)
      obtain ⟨l, hl⟩ : ∃ l, l = H.getD k Lk.zero := ⟨_, rfl⟩
      rw [← hl] at d1 d2 d3 HT
      clear hl d3
      by_cases q1 : l.tg = tg
      · have HE : Hid (insL (ofT tg (H.take (k + 1))) = insS l.th (insL (ofT tg (H.take k)))) := Hid.mk (by rw [HT.out, if_pos q1])
        have HP := Hid.mk (put_any HK.out.2.2 HK.out.1.size l.th (by
          have h1 := insL_len (ofT tg (H.take k))
          have h2 : (ofT tg (H.take k)).length ≤ (H.take k).length := List.length_filter_le _ _
          rw [List.length_take] at h2
          have := HN.out
          omega))
        rw [q1] at d2
        clear q1
        go_wp2_with (first
          | (go_at_call 37; refine HP.out.mono ?_; rintro e w1 ⟨v1', rfl, H1⟩; clear HP)
          | go_in)
        go_roundw
        case rel => exact ⟨k + 1, rfl, Hid.mk ⟨HK.out.1.trans (H1.out.2.mono HK.out.1.size), HKL.out.1, by rw [HE.out]; exact H1.out.1⟩⟩
        case measure => (have := HKL.out.1; simp [Go.RowKit.intOf]; omega)
      · have HE : Hid (insL (ofT tg (H.take (k + 1))) = insL (ofT tg (H.take k))) := Hid.mk (by rw [HT.out, if_neg q1])
        have q3 : (l.tg == tg) = false := beq_eq_false_iff_ne.2 q1
        go_wp2
        go_roundw
        case rel => exact ⟨k + 1, rfl, Hid.mk ⟨HK.out.1, HKL.out.1, by rw [HE.out]; exact HK.out.2.2⟩⟩
        case measure => (have := HKL.out.1; simp [Go.RowKit.intOf]; omega)
    · have HF : Hid (wr.ownsRow w.heap.size 3 1 u5 (insL (ofT tg H)).length (Iy (insL (ofT tg H))) ∧ Below w.heap.size w wr) := Hid.mk (by
        have := HK.out
        rw [List.take_of_length_le (by have := HN.out; omega)] at this
        exact ⟨this.2.2, this.1⟩)
      go_wp2
      go_ret
      exact ⟨_, rfl, HF⟩
end Go.Proofs.Ytoediflikoedaaa
namespace Go.Proofs.Ytoediflikoedaaa
open Go Go.Proofs Go.RowKit Go.Shelf
/-- append([]api.Lock(nil), v...). -/
theorem appLs {W : World} {v : Value} {L : List Lk} (h : SlOk W v L) (hn : L.length ≤ 1000000) :
    ∃ v' W', (Builtin.append_ #[27, 27] 27 #[.slice none 0 0, v]).run Try.prog W = .ok v' W' ∧ SlOk W' v' L ∧ (∀ k, v'.ownBlock = some k → W.heap.size ≤ k) ∧ Below W.heap.size W W' := by
  obtain ⟨i0, hi, hz0, hz1, hz2⟩ := info31p
  rcases h with ⟨rfl, rfl⟩ | ⟨g, hg, off, cap, cur, rfl, hh, h1, h2, h3, h4⟩
  · exact ⟨.slice none 0 0, W, run_append_owned_none (P := Try.prog) (w := W) W.heap.size 27 27 31 i0 3 Try.underlying27 hi _ 0 [] (World.ownsRow_nil _ _ _ _), .inl ⟨rfl, rfl⟩, fun k q => (by cases q), Below.refl _ _⟩
  · obtain ⟨v3, W3, hr, hown3, hg3, _⟩ := run_append_own (P := Try.prog) W W.heap.size 27 27 31 i0 (lkV Lk.zero) 3 24 Try.underlying27 hi hz0 hz1 hz2 rfl (by decide) (.slice none 0 0) 0 [] (World.ownsRow_nil _ _ _ _) ⟨g, off, none⟩ L.length cap (Ly L) (by rw [Ly_length]) (fun j u hj => by
        rw [add_at, blk_cell hh]
        exact h4 j u hj) (fun u hu => by
        obtain ⟨l, _, hu⟩ := List.mem_flatMap.1 hu
        exact lkC_one l u hu) (by unfold maxLen; omega) (by omega) (Nat.le_refl _)
    rw [List.nil_append, Nat.zero_add] at hown3
    have hB : Below W.heap.size W W3 := ((Only.refl (fun _ => False) W).grown hg3 (fun k hk => by cases hk)).below (Nat.le_refl _) (fun _ q => q.elim)
    by_cases hL : L = []
    · subst hL
      rcases hown3.2 with ⟨e, _⟩ | ⟨g3, c3, cur3, e, q1, q2, q3, q4, q5, q6⟩
      · subst e
        exact ⟨_, W3, hr, .inl ⟨rfl, rfl⟩, fun k q => (by cases q), hB⟩
      · subst e
        refine ⟨_, W3, hr, .inr ⟨g3, rfl, 0, c3, cur3, rfl, q2, q3, by omega, q4, fun j u hj => by simp [Ly] at hj⟩, fun k q => (by cases q; exact q1), hB⟩
    · obtain ⟨g', e1, e2, e3⟩ := RwAt.of_owns hown3 hL
      exact ⟨v3, W3, hr, .inr ⟨g', e1, e3⟩, fun k q => by rw [e1] at q; cases q; exact e2, hB⟩
theorem loop_sum (tg : Int) (H : List Lk) (st : Bool) (L : List Lk) : (loopR tg H st L).1.length + (loopR tg H st L).2.2.length = H.length + L.length := by
  induction L generalizing H st with
  | nil => simp [loopR]
  | cons l r ih =>
    unfold loopR
    split
    · have := ih H st
      simp only [List.length_cons]
      omega
    · split
      · have := ih (H ++ [l]) st
        simp only [List.length_append, List.length_cons, List.length_nil] at this ⊢
        omega
      · have := ih H true
        simp only [List.length_cons]
        omega
theorem less_lt {H : List Lk} {th tg : Int} (h : hasB H th tg = true) : (lessR H th tg).length < H.length := by
  obtain ⟨l, hl, h1, h2⟩ := hasB_iff.1 h
  unfold lessR
  refine List.length_filter_lt_length_iff_exists.2 ⟨l, hl, ?_⟩
  simp [h1, h2]
theorem rel_lt {R : Rf} {th tg : Int} (h : hasB R.held th tg = true) : (R.rel th tg).held.length + (R.rel th tg).row.length < R.held.length + R.row.length := by
  unfold Rf.rel
  rw [if_pos h]
  have h1 := loop_sum tg (lessR R.held th tg) false R.row
  have h2 := less_lt h
  show (loopR tg (lessR R.held th tg) false R.row).1.length + (loopR tg (lessR R.held th tg) false R.row).2.2.length < _
  omega
/-- The reference's end: everybody that holds waits. -/
theorem eqv_done {R : Rf} {A : Ta} (hA : A.Ok) (h : Eqv R A) (hd : ∀ l ∈ R.held, (R.waits l.th).isSome = true) : A.Done := by
  intro th tg hh
  rw [eqv_holds h] at hh
  obtain ⟨l, hl, _, e⟩ := hasB_iff.1 hh
  have := hd l hl
  rw [e] at this
  rw [eqv_waits hA h]
  exact this
theorem eqv_step {R : Rf} {A : Ta} (hA : A.Ok) (h : Eqv R A) {l : Lk} (hl : l ∈ R.held) (hw : R.waits l.th = none) : Step1 A l.th l.tg ∧ hasB R.held l.th l.tg = true := by
  have h1 : hasB R.held l.th l.tg = true := hasB_iff.2 ⟨l, hl, rfl, rfl⟩
  exact ⟨⟨by rw [eqv_holds h]; exact h1, by rw [eqv_waits hA h]; exact hw⟩, h1⟩
/-- Who waits, by number: what Stuck answers. -/
theorem eqv_keys {R : Rf} {A : Ta} (hA : A.Ok) (h : Eqv R A) : (insL R.row).Pairwise (· < ·) ∧ ∀ x, x ∈ insL R.row ↔ (A.waits x).isSome = true := by
  obtain ⟨a1, a2⟩ := fold_ins R.row [] (by simp)
  refine ⟨a1, fun x => (a2 x).trans ?_⟩
  constructor
  · rintro (q | ⟨l, hl, e⟩)
    · cases q
    · rw [← e, (eqv_mem hA h).1 hl]
      rfl
  · intro q
    cases hw : A.waits x with
    | none => rw [hw] at q; cases q
    | some l =>
      have e := (hA.wt x l hw).1
      exact .inr ⟨l, (eqv_mem hA h).2 (by rw [e]; exact hw), e⟩
end Go.Proofs.Ytoediflikoedaaa
