/-
  The reference's Put: a number into a rising row.
-/
import Derived.Test.YthmbhcmicebcpaaDpBo
import Derived.Maps.AppendAt
import Derived.Laws.AppendOwnNone
namespace Go.Proofs.Ythmbhcmicebcpaa
open Go Go.Proofs Go.RowKit Go.Shelf
attribute [local go_sem] Oper.semAt_some
theorem appendI (W : World) (B : Nat) (v : Value) (L : List Int) (x : Int) (hown : W.ownsRow B 3 1 v L.length (Iy L)) (hB : B ≤ W.heap.size) (hn : L.length ≤ 10000000) :
    ∃ v' W', (Builtin.append_ #[23, 23] 23 #[v, .slice (some ⟨W.heap.size, 0, none⟩) 1 1]).run Try.prog (W.alloc (.cells #[.int .i64 x] 3)) = .ok v' W' ∧ W'.ownsRow B 3 1 v' (L ++ [x]).length (Iy (L ++ [x])) ∧ Only (fun k => v.ownBlock = some k) W W' ∧ (v'.ownBlock = v.ownBlock ∨ v'.ownBlock = some (W.heap.size + 1)) ∧ (∃ g, v'.ownBlock = some g) := by
  obtain ⟨i0, hi, hz0, hz1, hz2⟩ := info3p
  have hnew := blk_new W (.cells #[.int .i64 x] 3)
  obtain ⟨v3, W3, hr, hown3, hg3, _, hw3⟩ := run_append_own_at (P := Try.prog) (W.alloc (.cells #[.int .i64 x] 3)) B 23 23 3 i0 (.int .i64 0) 1 8 Try.underlying23 hi hz0 hz1 hz2 rfl (by decide) v L.length (Iy L) (hown.alloc _) ⟨W.heap.size, 0, none⟩ 1 1 [.int .i64 x] rfl (fun j u hj => by
    match j, hj with
    | 0, hj => cases hj; rw [add_at, blk_cell hnew]; rfl) (fun u hu => by simp at hu; subst hu; rfl) (by unfold maxLen; omega) (by omega) (by simp; omega)
  have e : Iy L ++ [.int .i64 x] = Iy (L ++ [x]) := by simp [Iy]
  rw [e] at hown3
  have hown4 : W3.ownsRow B 3 1 v3 (L ++ [x]).length (Iy (L ++ [x])) := by rw [List.length_append]; exact hown3
  refine ⟨v3, W3, hr, hown4, ((Only.refl _ W).alloc _).grown hg3 (fun k hk => .inl hk), by simpa using hw3, ?_⟩
  rcases hown4.2 with ⟨_, h0⟩ | ⟨g, cap, cur, rfl, _⟩
  · simp at h0
  · exact ⟨g, rfl⟩
/-- append(v, y...), v a row of one's own. -/
theorem appIs2 {W : World} {B : Nat} {v : Value} {xs : List Int} (hown : W.ownsRow B 3 1 v xs.length (Iy xs)) (hB : B ≤ W.heap.size) {ao : Option Addr} {m c : Nat} {ys : List Int} (hb : LAt W ao m ys) (h0 : ao = none → c = 0) (hn : xs.length + m ≤ 16777216) :
    ∃ v' W', (Builtin.append_ #[23, 23] 23 #[v, .slice ao m c]).run Try.prog W = .ok v' W' ∧ W'.ownsRow B 3 1 v' (xs ++ ys).length (Iy (xs ++ ys)) ∧ W.grownBy W' v.ownBlock := by
  obtain ⟨i0, hi, hz0, hz1, hz2⟩ := info3p
  cases ao with
  | none =>
    have hm : m = 0 := by
      rcases Nat.eq_zero_or_pos m with q | q
      · exact q
      · obtain ⟨a, e, _⟩ := hb.2 q
        cases e
    subst hm
    obtain rfl := h0 rfl
    obtain rfl : ys = [] := List.eq_nil_of_length_eq_zero hb.1
    refine ⟨v, W, run_append_owned_none (P := Try.prog) (w := W) B 23 23 3 i0 1 Try.underlying23 hi v _ _ hown, by simpa using hown, ⟨rfl, rfl, rfl, Nat.le_refl _, fun _ _ _ => rfl⟩⟩
  | some a =>
    obtain ⟨v3, W3, hr, hown3, hg3, _⟩ := run_append_own (P := Try.prog) W B 23 23 3 i0 (.int .i64 0) 1 8 Try.underlying23 hi hz0 hz1 hz2 rfl (by decide) v xs.length (Iy xs) hown a m c (Iy ys) (by rw [Iy_length, hb.1, Nat.mul_one]) (fun j u hj => by
        have hjl := (List.getElem?_eq_some_iff.1 hj).1
        rw [Iy_length] at hjl
        rw [Iy_get ys j hjl] at hj
        obtain ⟨a', e, hc⟩ := hb.at j (by rw [← hb.1]; exact hjl)
        cases e
        rw [hc]
        exact hj) (Iy_one ys) (by unfold maxLen; omega) (by omega) hB
    have e : Iy xs ++ Iy ys = Iy (xs ++ ys) := by simp [Iy]
    rw [e] at hown3
    exact ⟨v3, W3, hr, by rw [List.length_append, hb.1]; exact hown3, hg3⟩
/-- The four appends of Put, as they run. -/
theorem put_chain {w : World} {B k n : Nat} {S : List Int} (x : Int) (hB : B ≤ w.heap.size) (hn : S.length = n) (hm : n ≤ 1000000) (hk : k ≤ n) {a1 a2 : Option Addr} {c1 c2 : Nat} (h1 : LAt w a1 (n - k) (S.drop k)) (e1 : a1 = none → c1 = 0) (h2 : LAt w a2 k (S.take k)) (e2 : a2 = none → c2 = 0) :
    ∃ v1 W1 v2 W2 v3 W3 v4 W4, Hid ((Builtin.append_ #[23, 23] 23 #[.slice none 0 0, .slice a1 (n - k) c1]).run Try.prog w = .ok v1 W1) ∧ Hid ((Builtin.append_ #[23, 23] 23 #[.slice none 0 0, .slice a2 k c2]).run Try.prog W1 = .ok v2 W2) ∧ Hid ((Builtin.append_ #[23, 23] 23 #[v2, .slice (some ⟨W2.heap.size, 0, none⟩) 1 1]).run Try.prog (W2.alloc (.cells #[.int .i64 x] 3)) = .ok v3 W3) ∧ Hid ((Builtin.append_ #[23, 23] 23 #[v3, v1]).run Try.prog W3 = .ok v4 W4) ∧ Hid (W4.ownsRow B 3 1 v4 (S.take k ++ [x] ++ S.drop k).length (Iy (S.take k ++ [x] ++ S.drop k)) ∧ Below w.heap.size w W4) := by
  have ed : (S.drop k).length = n - k := by rw [List.length_drop, hn]
  have et : (S.take k).length = k := by rw [List.length_take, hn]; omega
  obtain ⟨v1, W1, r1, o1, g1⟩ := appIs2 (W := w) (B := w.heap.size) (v := .slice none 0 0) (xs := []) (World.ownsRow_nil _ _ _ _) (Nat.le_refl _) h1 e1 (by simp; omega)
  have b1 : Below w.heap.size w W1 := ((Only.refl (fun _ => False) w).grown g1 (fun k hk => by cases hk)).below (Nat.le_refl _) (fun _ q => q.elim)
  rw [List.nil_append] at o1
  obtain ⟨v2, W2, r2, o2, g2⟩ := appIs2 (W := W1) (B := W1.heap.size) (v := .slice none 0 0) (xs := []) (World.ownsRow_nil _ _ _ _) (Nat.le_refl _) (h2.next b1) e2 (by simp; omega)
  have b2 : Below W1.heap.size W1 W2 := ((Only.refl (fun _ => False) W1).grown g2 (fun k hk => by cases hk)).below (Nat.le_refl _) (fun _ q => q.elim)
  rw [List.nil_append] at o2
  obtain ⟨v3, W3, r3, o3, q3, _, _⟩ := appendI W2 W1.heap.size v2 (S.take k) x o2 b2.size (by omega)
  have b3 : Below W1.heap.size W1 W3 := b2.trans (q3.below b2.size (fun j hj => by
    rcases o2.2 with ⟨e, _⟩ | ⟨g, cap, cur, e, hg, _⟩
    · rw [e] at hj; cases hj
    · rw [e] at hj; cases hj; exact hg))
  obtain ⟨ao, c, e, hl1⟩ := owns_lat o1
  have ec : ao = none → c = 0 := fun q => by
    subst q
    rcases o1.2 with ⟨e', _⟩ | ⟨g, cap, cur, e', _⟩
    · rw [e] at e'; injection e'
    · rw [e] at e'
      have q1 := congrArg (fun v : Value => match v with | .slice z _ _ => z | _ => none) e'
      cases q1
  subst e
  obtain ⟨v4, W4, r4, o4, g4⟩ := appIs2 (W := W3) (B := W1.heap.size) (v := v3) o3 b3.size (hl1.next b3) ec (by rw [List.length_append, ed, et]; simp; omega)
  have b4 : Below W1.heap.size W3 W4 := ((Only.refl (fun j => W1.heap.size ≤ j) W3).grown g4 (fun j hj => .inl (by
    rcases o3.2 with ⟨e, _⟩ | ⟨g, cap, cur, e, hg, _⟩
    · rw [e] at hj; cases hj
    · rw [e] at hj; cases hj; exact hg))).below b3.size (fun _ q => q)
  refine ⟨_, W1, v2, W2, v3, W3, v4, W4, Hid.mk r1, Hid.mk r2, Hid.mk r3, Hid.mk r4, Hid.mk ⟨?_, b1.trans ((b3.trans b4).mono b1.size)⟩⟩
  rcases o4 with ⟨p1, p2 | ⟨g, cap, cur, q1, q2, q3⟩⟩
  · exact ⟨p1, .inl p2⟩
  · exact ⟨p1, .inr ⟨g, cap, cur, q1, Nat.le_trans hB (Nat.le_trans b1.size q2), q3⟩⟩
end Go.Proofs.Ythmbhcmicebcpaa
namespace Go.Proofs.Ythmbhcmicebcpaa
open Go Go.Proofs Go.RowKit Go.Shelf
attribute [local go_sem] Oper.semAt_some
theorem drop_get {xs : List Int} {i : Nat} (h : i < xs.length) : xs.drop i = xs.getD i 0 :: xs.drop (i + 1) := by
  rw [List.drop_eq_getElem_cons h]
  simp [List.getD, List.getElem?_eq_getElem h]
theorem la_drop {w : World} {a : Addr} {n k : Nat} {S : List Int} (hn : S.length = n) (h : LAt w (some a) n S) : LAt w (some (a.add k)) (n - k) (S.drop k) := by
  refine ⟨by rw [List.length_drop, hn], fun q => ⟨_, rfl, ?_, fun i hi => ?_⟩⟩
  · obtain ⟨a', e, hb, _⟩ := h.2 (by omega)
    cases e
    rwa [add_block]
  · obtain ⟨a', e, hc⟩ := h.at (k + i) (by omega)
    cases e
    rw [add_add, hc]
    simp [List.getD, List.getElem?_drop]
theorem la_take {w : World} {a : Addr} {n k : Nat} {S : List Int} (hn : S.length = n) (h : LAt w (some a) n S) (hk : k ≤ n) : LAt w (some a) k (S.take k) := by
  refine ⟨by rw [List.length_take, hn]; omega, fun q => ?_⟩
  obtain ⟨a', e, hb, hc⟩ := h.2 (by omega)
  cases e
  refine ⟨_, rfl, hb, fun i hi => ?_⟩
  rw [hc i (by omega)]
  simp [List.getD, hi]
theorem la_none {w : World} {n : Nat} (S : List Int) (h : S.length = n) (hn : n = 0 := by rfl) : LAt w none n S := ⟨h, fun q => by omega⟩
theorem la_end {w : World} {a : Addr} {n k m : Nat} {S : List Int} (hn : S.length = n) (hk : n ≤ k) (hm : m = 0) : LAt w (some a) m (S.drop k) := ⟨by rw [List.length_drop, hn]; omega, fun q => by omega⟩
theorem ins_split {x : Int} (A Bs : List Int) (h : ∀ a ∈ A, a < x) : insS x (A ++ Bs) = A ++ insS x Bs := by
  induction A with
  | nil => rfl
  | cons a r ih =>
    have ha : a < x := h a (by simp)
    show (if x < a then x :: a :: (r ++ Bs) else if x = a then a :: (r ++ Bs) else a :: insS x (r ++ Bs)) = _
    rw [if_neg (by omega), if_neg (by omega), ih (fun b hb => h b (by simp [hb]))]
    rfl
theorem put_list {S : List Int} {x : Int} {k : Nat} (hk : k ≤ S.length) (h : ∀ j, j < k → S.getD j 0 < x) : (k = S.length ∨ x < S.getD k 0 → insS x S = S.take k ++ [x] ++ S.drop k) ∧ (k < S.length → S.getD k 0 = x → insS x S = S) := by
  have e0 : S = S.take k ++ S.drop k := (List.take_append_drop _ _).symm
  have hA : ∀ a ∈ S.take k, a < x := fun a ha => by
    obtain ⟨j, hj, e⟩ := List.getElem_of_mem ha
    rw [List.length_take] at hj
    have := h j (by omega)
    rw [← e, List.getElem_take]
    rwa [List.getD, List.getElem?_eq_getElem (by omega)] at this
  have e1 : insS x S = S.take k ++ insS x (S.drop k) := by conv => lhs; rw [e0]
                                                           exact ins_split _ _ hA
  refine ⟨fun q => ?_, fun q1 q2 => ?_⟩
  · rw [e1, List.append_assoc]
    congr 1
    rcases Nat.lt_or_ge k S.length with q1 | q1
    · rw [drop_get q1]
      have : x < S.getD k 0 := q.elim (fun e => by omega) id
      show (if x < S.getD k 0 then _ else _) = _
      rw [if_pos this]
      rfl
    · rw [List.drop_eq_nil_of_le q1]
      rfl
  · rw [e1]
    conv => rhs; rw [e0]
    congr 1
    rw [drop_get q1, q2]
    show (if x < x then _ else if x = x then _ else _) = _
    rw [if_neg (by omega), if_pos rfl]
set_option maxRecDepth 100000 in
set_option maxHeartbeats 600000 in
theorem put_any {w : World} {B : Nat} {v : Value} {S : List Int} (hown : w.ownsRow B 3 1 v S.length (Iy S)) (hB : B ≤ w.heap.size) (x : Int) (hn : S.length ≤ 1000000) : Calls Try.prog 37 #[v, .int .i64 x] w fun e w' => ∃ v', e = .returned v' ∧ Hid (w'.ownsRow B 3 1 v' (insS x S).length (Iy (insS x S)) ∧ Below w.heap.size w w') := by
  obtain ⟨ao, c, rfl, hl⟩ := owns_lat hown
  have HO := Hid.mk hown
  have HL := Hid.mk hl
  have HBB := Hid.mk hB
  obtain ⟨n, hnn⟩ : ∃ n, S.length = n := ⟨_, rfl⟩
  rw [hnn] at hn HL ⊢
  have HN := Hid.mk hnn
  have HCC : Hid ((∀ a, ao = some a → n ≤ c) ∧ (ao = none → n = 0 ∧ c = 0)) := Hid.mk (by
    rw [← hnn]
    rcases hown.2 with ⟨e, h0⟩ | ⟨g, cap, cur, e, _, _, hc, _⟩
    · have ea : ao = none := congrArg (fun v : Value => match v with | .slice z _ _ => z | _ => none) e
      have ec : c = 0 := congrArg (fun v : Value => match v with | .slice _ _ z => z | _ => 0) e
      exact ⟨fun a q => (by rw [ea] at q; cases q), fun _ => ⟨h0, ec⟩⟩
    · have ea : ao = some ⟨g, 0, none⟩ := congrArg (fun v : Value => match v with | .slice z _ _ => z | _ => none) e
      have ec : c = cap := congrArg (fun v : Value => match v with | .slice _ _ z => z | _ => 0) e
      exact ⟨fun _ _ => (by rw [ec]; exact hc), fun q => (by rw [ea] at q; cases q)⟩)
  clear hown hl hB hnn
  go_enter Try.func37, Try.ntmps37
  go_wp2
  go_loopw [5] (fun kv wr => ∃ k : Nat, kv = .int .i64 k ∧ Hid (wr = w ∧ k ≤ n ∧ ∀ j, j < k → S.getD j 0 < x)) (fun kv _ => n - (Go.RowKit.intOf kv).toNat)
  case atStart => exact ⟨0, rfl, Hid.mk ⟨rfl, Nat.zero_le _, fun j hj => by omega⟩⟩
  case round =>
    obtain ⟨k, rfl, HK0⟩ := hrel
    obtain ⟨ew, hk1, hk2⟩ := HK0.out
    subst ew
    have HK : Hid (k ≤ n ∧ ∀ j, j < k → S.getD j 0 < x) := Hid.mk ⟨hk1, hk2⟩
    have HPL := Hid.mk (put_list (S := S) (x := x) (k := k) (by rw [HN.out]; exact hk1) hk2)
    clear HK0 hk1 hk2
    by_cases hkl : (k : Int) < (n : Int)
    · have v1 : IntKind.i64.wrap ((k : Int) + 1) = ((k + 1 : Nat) : Int) := by rw [IntKind.wrap_i64]; omega
      have HKL : Hid (k < n) := Hid.mk (by omega)
      obtain ⟨a, rfl, d1⟩ := HL.out.at k HKL.out
      by_cases q1 : S.getD k 0 < x
      · have HT : Hid (∀ j, j < k + 1 → S.getD j 0 < x) := Hid.mk (fun j hj => by
          rcases Nat.lt_or_ge j k with q | q
          · exact HK.out.2 j q
          · obtain rfl : j = k := by omega
            exact q1)
        generalize S.getD k 0 = y at *
        clear HK
        go_wp2
        go_roundw
        case rel => exact ⟨k + 1, rfl, Hid.mk ⟨trivial, HKL.out, HT.out⟩⟩
        case measure => (have := HKL.out; simp [Go.RowKit.intOf]; omega)
      · have qd : decide (S.getD k 0 < x) = false := decide_eq_false q1
        by_cases q2 : S.getD k 0 = x
        · have HE := Hid.mk (HPL.out.2 (by rw [HN.out]; exact HKL.out) q2)
          have HO2 := HO.out
          rw [q2] at d1
          clear q1 q2 qd HK
          go_wp2
          go_ret
          exact ⟨_, rfl, Hid.mk ⟨by rw [HE.out]; rw [HN.out] at HO2; rw [HN.out]; exact HO2, Below.refl _ _⟩⟩
        · have q3 : (S.getD k 0 == x) = false := beq_eq_false_iff_ne.2 q2
          have HKN : Hid (k ≤ n) := Hid.mk (by have := HKL.out; omega)
          have HX : Hid (x < S.getD k 0) := Hid.mk (by omega)
          have hnc : (n : Int) ≤ (c : Int) := by have := HCC.out.1 a rfl; omega
          have hkc : ¬ (k : Int) = (c : Int) := by omega
          have hkc2 : (k : Int) ≤ (c : Int) := by omega
          have hkn : (k : Int) ≤ (n : Int) := by omega
          have u9 : ((n : Int) - (k : Int)).toNat = n - k := by omega
          generalize S.getD k 0 = y at q1 q2 qd q3 d1
          obtain ⟨v1, W1, v2, W2, v3, W3, v4, W4, HA1, HA2, HA3, HA4, HFI⟩ := put_chain (w := wr) (B := B) (k := k) (n := n) (S := S) (a1 := some (a.add k)) (c1 := c - k) (a2 := some a) (c2 := c) x HBB.out HN.out hn (by have := HKN.out; omega) (la_drop HN.out HL.out) (fun q => by cases q) (la_take HN.out HL.out (by have := HKN.out; omega)) (fun q => by cases q)
          have HE := Hid.mk (HPL.out.1 (.inr HX.out))
          clear HK HL HO HPL
          go_upto_region 6 with fail
          go_wp2_with (first
            | (at_builtin; refine wpList_append_known rfl _ _ _ rfl _ _ _ _ rfl rfl HA1.out ?_; simp only [Act.put, List.setIfInBounds_toArray, List.set_cons_zero, List.set_cons_succ]; clear HA1)
            | (at_builtin; refine wpList_append_known rfl _ _ _ rfl _ _ _ _ rfl rfl HA2.out ?_; simp only [Act.put, List.setIfInBounds_toArray, List.set_cons_zero, List.set_cons_succ]; clear HA2)
            | (at_builtin; refine wpList_append_known rfl _ _ _ rfl _ _ _ _ rfl rfl HA3.out ?_; simp only [Act.put, List.setIfInBounds_toArray, List.set_cons_zero, List.set_cons_succ]; clear HA3)
            | (at_builtin; refine wpList_append_known rfl _ _ _ rfl _ _ _ _ rfl rfl HA4.out ?_; simp only [Act.put, List.setIfInBounds_toArray, List.set_cons_zero, List.set_cons_succ]; clear HA4)
            | go_in)
          go_ret
          exact ⟨_, rfl, Hid.mk (by rw [HE.out]; exact HFI.out)⟩
    · have HKN : Hid (k = n) := Hid.mk (by have := HK.out.1; omega)
      cases ao with
      | none =>
        obtain ⟨e1, e2⟩ := HCC.out.2 rfl
        obtain rfl : k = 0 := by have := HKN.out; omega
        subst e1 e2
        obtain ⟨v1, W1, v2, W2, v3, W3, v4, W4, HA1, HA2, HA3, HA4, HFI⟩ := put_chain (w := wr) (B := B) (k := 0) (n := 0) (S := S) (a1 := none) (c1 := 0) (a2 := none) (c2 := 0) x HBB.out HN.out hn (Nat.le_refl _) (by simpa using la_none (S.drop 0) (by rw [List.length_drop, HN.out])) (fun _ => rfl) (la_none _ (by simp)) (fun _ => rfl)
        simp only [Nat.sub_self] at HA1
        have HE := Hid.mk (HPL.out.1 (.inl (by rw [HN.out])))
        clear HK HL HO HPL
        go_upto_region 6 with fail
        go_wp2_with (first
          | (at_builtin; refine wpList_append_known rfl _ _ _ rfl _ _ _ _ rfl rfl HA1.out ?_; simp only [Act.put, List.setIfInBounds_toArray, List.set_cons_zero, List.set_cons_succ]; clear HA1)
          | (at_builtin; refine wpList_append_known rfl _ _ _ rfl _ _ _ _ rfl rfl HA2.out ?_; simp only [Act.put, List.setIfInBounds_toArray, List.set_cons_zero, List.set_cons_succ]; clear HA2)
          | (at_builtin; refine wpList_append_known rfl _ _ _ rfl _ _ _ _ rfl rfl HA3.out ?_; simp only [Act.put, List.setIfInBounds_toArray, List.set_cons_zero, List.set_cons_succ]; clear HA3)
          | (at_builtin; refine wpList_append_known rfl _ _ _ rfl _ _ _ _ rfl rfl HA4.out ?_; simp only [Act.put, List.setIfInBounds_toArray, List.set_cons_zero, List.set_cons_succ]; clear HA4)
          | go_in)
        go_ret
        exact ⟨_, rfl, Hid.mk (by rw [HE.out]; exact HFI.out)⟩
      | some a =>
        have hnc : (n : Int) ≤ (c : Int) := by have := HCC.out.1 a rfl; omega
        have hkc2 : (k : Int) ≤ (c : Int) := by have := HKN.out; omega
        have hkn := HKN.out
        subst hkn
        by_cases hkc : k = c
        · subst hkc
          obtain ⟨v1, W1, v2, W2, v3, W3, v4, W4, HA1, HA2, HA3, HA4, HFI⟩ := put_chain (w := wr) (B := B) (k := k) (n := k) (S := S) (a1 := some a) (c1 := 0) (a2 := some a) (c2 := k) x HBB.out HN.out hn (Nat.le_refl _) (la_end HN.out (Nat.le_refl _) (by rw [Nat.sub_self])) (fun q => by cases q) (la_take HN.out HL.out (Nat.le_refl _)) (fun q => by cases q)
          simp only [Nat.sub_self] at HA1
          have HE := Hid.mk (HPL.out.1 (.inl HN.out.symm))
          clear HK HL HO HPL
          go_upto_region 6 with fail
          go_wp2_with (first
            | (at_builtin; refine wpList_append_known rfl _ _ _ rfl _ _ _ _ rfl rfl HA1.out ?_; simp only [Act.put, List.setIfInBounds_toArray, List.set_cons_zero, List.set_cons_succ]; clear HA1)
            | (at_builtin; refine wpList_append_known rfl _ _ _ rfl _ _ _ _ rfl rfl HA2.out ?_; simp only [Act.put, List.setIfInBounds_toArray, List.set_cons_zero, List.set_cons_succ]; clear HA2)
            | (at_builtin; refine wpList_append_known rfl _ _ _ rfl _ _ _ _ rfl rfl HA3.out ?_; simp only [Act.put, List.setIfInBounds_toArray, List.set_cons_zero, List.set_cons_succ]; clear HA3)
            | (at_builtin; refine wpList_append_known rfl _ _ _ rfl _ _ _ _ rfl rfl HA4.out ?_; simp only [Act.put, List.setIfInBounds_toArray, List.set_cons_zero, List.set_cons_succ]; clear HA4)
            | go_in)
          go_ret
          exact ⟨_, rfl, Hid.mk (by rw [HE.out]; exact HFI.out)⟩
        · have hkc3 : ¬ (k : Int) = (c : Int) := by omega
          obtain ⟨v1, W1, v2, W2, v3, W3, v4, W4, HA1, HA2, HA3, HA4, HFI⟩ := put_chain (w := wr) (B := B) (k := k) (n := k) (S := S) (a1 := some (a.add k)) (c1 := c - k) (a2 := some a) (c2 := c) x HBB.out HN.out hn (Nat.le_refl _) (la_drop HN.out HL.out) (fun q => by cases q) (la_take HN.out HL.out (Nat.le_refl _)) (fun q => by cases q)
          simp only [Nat.sub_self] at HA1
          have HE := Hid.mk (HPL.out.1 (.inl HN.out.symm))
          clear HK HL HO HPL
          go_upto_region 6 with fail
          go_wp2_with (first
            | (at_builtin; refine wpList_append_known rfl _ _ _ rfl _ _ _ _ rfl rfl HA1.out ?_; simp only [Act.put, List.setIfInBounds_toArray, List.set_cons_zero, List.set_cons_succ]; clear HA1)
            | (at_builtin; refine wpList_append_known rfl _ _ _ rfl _ _ _ _ rfl rfl HA2.out ?_; simp only [Act.put, List.setIfInBounds_toArray, List.set_cons_zero, List.set_cons_succ]; clear HA2)
            | (at_builtin; refine wpList_append_known rfl _ _ _ rfl _ _ _ _ rfl rfl HA3.out ?_; simp only [Act.put, List.setIfInBounds_toArray, List.set_cons_zero, List.set_cons_succ]; clear HA3)
            | (at_builtin; refine wpList_append_known rfl _ _ _ rfl _ _ _ _ rfl rfl HA4.out ?_; simp only [Act.put, List.setIfInBounds_toArray, List.set_cons_zero, List.set_cons_succ]; clear HA4)
            | go_in)
          go_ret
          exact ⟨_, rfl, Hid.mk (by rw [HE.out]; exact HFI.out)⟩
end Go.Proofs.Ythmbhcmicebcpaa
namespace Go.Proofs.Ythmbhcmicebcpaa
open Go Go.Proofs Go.RowKit Go.Shelf
attribute [local go_sem] Oper.semAt_some
def blB (G : Gp) (b : Int) (j : Nat) : Bool := decide (G.buf j = b) && !G.dn j && !mayB G j
theorem bl_same {G : Gp} {A : Ga} (h : Rel G A) (hG : G.Ok) (b : Int) : pick (blB G b) G.n = blL A b := by
  obtain ⟨p1, p2⟩ := bl_pw h b
  refine rise_ext (pick_pw _ _) p1 (fun x => ?_)
  rw [pick_mem, p2 x]
  constructor
  · rintro ⟨j, rfl, hj, q⟩
    unfold blB at q
    simp only [Bool.and_eq_true, decide_eq_true_eq, Bool.not_eq_true'] at q
    refine ⟨⟨⟨by omega, by omega⟩, q.1.2⟩, fun hm => ?_, q.1.1⟩
    have := (may_iff hG ⟨by omega, by omega⟩).2 hm
    rw [q.2] at this
    cases this
  · rintro ⟨q1, q2, q3⟩
    have hx := q1.1
    have e : ((x.toNat : Nat) : Int) = x := by omega
    refine ⟨x.toNat, e.symm, by omega, ?_⟩
    unfold blB
    rw [e]
    simp only [Bool.and_eq_true, decide_eq_true_eq, Bool.not_eq_true']
    refine ⟨⟨q3, q1.2⟩, ?_⟩
    cases hm : mayB G x with
    | false => rfl
    | true => exact absurd ((may_iff hG hx).1 hm) q2
section
variable {F : Nat → Prop} {w : World} {r : Nat} {v : Value} {G : Gp}
set_option maxRecDepth 100000 in
set_option maxHeartbeats 4000000 in
theorem rblocked_any (h : RgAt F w r v G) (hG : G.Ok) (hn : G.n ≤ 1000000) (b : Int) : Calls Try.prog 19 #[ptV r, .int .i64 b] w fun e w' => ∃ u, e = .returned u ∧ Hid (w'.ownsRow w.heap.size 3 1 u (pick (blB G b) G.n).length (Iy (pick (blB G b) G.n)) ∧ Below w.heap.size w w') := by
  obtain ⟨ao, cap, rfl, _⟩ := h.slice
  obtain ⟨n, hnn⟩ : ∃ n, n = G.n := ⟨_, rfl⟩
  have HF : Hid (∀ W, Below w.heap.size w W → W.cell? ⟨r, 0, none⟩ = some (.slice ao n cap) ∧ (∀ j : Nat, j < n → (∃ gb, ao = some ⟨gb, 0, none⟩ ∧ W.cell? ⟨gb, j * 3, none⟩ = some (.int .i64 (G.buf j)) ∧ W.cell? ⟨gb, j * 3 + 2, none⟩ = some (.bool (G.dn j))) ∧ Calls Try.prog 34 #[ptV r, .int .i64 (j : Nat)] W fun e w' => e = .returned (.bool (mayB G j)) ∧ Below W.heap.size W w')) := Hid.mk (fun W hB => by
    have h2 := h.below hB
    rw [hnn]
    refine ⟨h2.cell, fun j hj => ⟨?_, rmay_any h2 hG j hj⟩⟩
    obtain ⟨gb, cap', e, _, _, _, _, hc⟩ := h2.at' (by omega)
    cases e
    exact ⟨gb, rfl, (hc j hj).1, (hc j hj).2.2⟩)
  rw [← hnn] at hn ⊢
  obtain ⟨p, hp⟩ : ∃ p, p = blB G b := ⟨_, rfl⟩
  rw [← hp]
  have HP : Hid (∀ j : Nat, p j = (decide (G.buf j = b) && !G.dn j && !mayB G j)) := Hid.mk (fun j => by rw [hp]; rfl)
  have HN := Hid.mk hn
  clear h hG hnn hp hn
  go_enter Try.func19, Try.ntmps19
  go_wp2
  go_loopw [5, 6, 7] (fun ov kv _ wr => ∃ k : Nat, kv = .int .i64 k ∧ Hid (k ≤ n ∧ wr.ownsRow w.heap.size 3 1 ov (pick p k).length (Iy (pick p k)) ∧ Below w.heap.size w wr)) (fun _ kv _ _ => n - (Go.RowKit.intOf kv).toNat)
  case atStart => exact ⟨0, rfl, Hid.mk ⟨Nat.zero_le _, own_nil0 _ _, Below.refl _ _⟩⟩
  case round =>
    obtain ⟨k, rfl, HK⟩ := hrel
    obtain ⟨f1, f2⟩ := HF.out wr HK.out.2.2
    by_cases hkl : (k : Int) < (n : Int)
    · have v1 : IntKind.i64.wrap ((k : Int) + 1) = ((k + 1 : Nat) : Int) := by have := HN.out; rw [IntKind.wrap_i64]; omega
      have HKL : Hid (k < n) := Hid.mk (by omega)
      have HM := Hid.mk (f2 k HKL.out).2
      have k0 : (0 : Int) ≤ ((k : Nat) : Int) := by omega
      have HW1 : Hid (∀ w1, Below wr.heap.size wr w1 → w1.cell? ⟨r, 0, none⟩ = some (.slice ao n cap) ∧ ∃ gb, ao = some ⟨gb, 0, none⟩ ∧ w1.cell? ⟨gb, k * 3, none⟩ = some (.int .i64 (G.buf k)) ∧ w1.cell? ⟨gb, k * 3 + 2, none⟩ = some (.bool (G.dn k))) := Hid.mk (fun w1 hB => by
        obtain ⟨a1, a2⟩ := HF.out w1 (HK.out.2.2.trans (hB.mono HK.out.2.2.size))
        exact ⟨a1, (a2 k HKL.out).1⟩)
      have HT := Hid.mk (pick_succ p k)
      have HPK := Hid.mk (HP.out k)
      have HOW : Hid (∀ w1, Below wr.heap.size wr w1 → w1.ownsRow w.heap.size 3 1 u5 (pick p k).length (Iy (pick p k)) ∧ Below w.heap.size w w1 ∧ ∃ v' W', (Builtin.append_ #[23, 23] 23 #[u5, .slice (some ⟨w1.heap.size, 0, none⟩) 1 1]).run Try.prog (w1.alloc (.cells #[.int .i64 (k : Int)] 3)) = .ok v' W' ∧ Hid (W'.ownsRow w.heap.size 3 1 v' (pick p k ++ [(k : Int)]).length (Iy (pick p k ++ [(k : Int)])) ∧ Below w.heap.size w W')) := Hid.mk (fun w1 hB1 => by
        have hs := HK.out.2.2.size
        have ho := own_same HK.out.2.1 (fun g hg => hB1.block g (owns_lt HK.out.2.1 hg))
        obtain ⟨v', W', a1, a2, a3⟩ := appendi_one w1 w.heap.size u5 (pick p k).length (pick p k) ho (Nat.le_trans hs hB1.size) (k : Int) (by have := pick_len p k; have := HKL.out; have := HN.out; omega)
        refine ⟨ho, HK.out.2.2.trans (hB1.mono hs), v', W', a1, Hid.mk ⟨by rw [List.length_append]; exact a2, (HK.out.2.2.trans (hB1.mono hs)).trans a3⟩⟩)
      generalize G.buf k = bk at HW1 HPK
      generalize G.dn k = dk at HW1 HPK
      generalize mayB G k = mk at HM HPK
      clear f2 HK
      by_cases hb : bk = b
      · subst hb
        cases dk with
        | true =>
          have HT2 : Hid (pick p (k + 1) = pick p k) := Hid.mk (by rw [HT.out, HPK.out]; simp)
          go_wp2_with (first
            | (go_at_call 34; refine HM.out.mono ?_; rintro e w1 ⟨rfl, hb1⟩; obtain ⟨g1, gb, rfl, g2, g3⟩ := HW1.out w1 hb1; have e9 : (⟨gb, 0, none⟩ : Addr).add (k * 3) = ⟨gb, k * 3, none⟩ := (by rw [add_at]; simp); obtain ⟨o1, o2, _⟩ := HOW.out w1 hb1; have HO := Hid.mk (And.intro o1 o2); clear hb1 HM HW1 HOW o1 o2)
            | go_in)
          go_roundw
          case rel => exact ⟨k + 1, rfl, Hid.mk ⟨HKL.out, by rw [HT2.out]; exact HO.out⟩⟩
          case measure => (have := HKL.out; simp [Go.RowKit.intOf]; omega)
        | false =>
          cases mk with
          | true =>
            have HT2 : Hid (pick p (k + 1) = pick p k) := Hid.mk (by rw [HT.out, HPK.out]; simp)
            go_wp2_with (first
              | (go_at_call 34; refine HM.out.mono ?_; rintro e w1 ⟨rfl, hb1⟩; obtain ⟨g1, gb, rfl, g2, g3⟩ := HW1.out w1 hb1; have e9 : (⟨gb, 0, none⟩ : Addr).add (k * 3) = ⟨gb, k * 3, none⟩ := (by rw [add_at]; simp); obtain ⟨o1, o2, _⟩ := HOW.out w1 hb1; have HO := Hid.mk (And.intro o1 o2); clear hb1 HM HW1 HOW o1 o2)
              | go_in)
            go_roundw
            case rel => exact ⟨k + 1, rfl, Hid.mk ⟨HKL.out, by rw [HT2.out]; exact HO.out⟩⟩
            case measure => (have := HKL.out; simp [Go.RowKit.intOf]; omega)
          | false =>
            have HT2 : Hid (pick p (k + 1) = pick p k ++ [(k : Int)]) := Hid.mk (by rw [HT.out, HPK.out]; simp)
            go_wp2_with (first
              | (go_at_call 34; refine HM.out.mono ?_; rintro e w1 ⟨rfl, hb1⟩; obtain ⟨g1, gb, rfl, g2, g3⟩ := HW1.out w1 hb1; have e9 : (⟨gb, 0, none⟩ : Addr).add (k * 3) = ⟨gb, k * 3, none⟩ := (by rw [add_at]; simp); obtain ⟨_, _, v', W', a1, HW'⟩ := HOW.out w1 hb1; have HA1 := Hid.mk a1; clear hb1 HM HW1 HOW a1)
              | (at_builtin; refine wpList_append_known rfl _ _ _ rfl _ _ _ _ rfl rfl HA1.out ?_; simp only [Act.put, List.setIfInBounds_toArray, List.set_cons_zero, List.set_cons_succ])
              | go_in)
            go_roundw
            case rel => exact ⟨k + 1, rfl, Hid.mk ⟨HKL.out, by rw [HT2.out]; exact HW'.out⟩⟩
            case measure => (have := HKL.out; simp [Go.RowKit.intOf]; omega)
      · have hb1' : (bk == b) = false := beq_eq_false_iff_ne.2 hb
        have HT2 : Hid (pick p (k + 1) = pick p k) := Hid.mk (by rw [HT.out, HPK.out]; simp [hb])
        go_wp2_with (first
          | (go_at_call 34; refine HM.out.mono ?_; rintro e w1 ⟨rfl, hb1⟩; obtain ⟨g1, gb, rfl, g2, g3⟩ := HW1.out w1 hb1; have e9 : (⟨gb, 0, none⟩ : Addr).add (k * 3) = ⟨gb, k * 3, none⟩ := (by rw [add_at]; simp); obtain ⟨o1, o2, _⟩ := HOW.out w1 hb1; have HO := Hid.mk (And.intro o1 o2); clear hb1 HM HW1 HOW o1 o2)
          | go_in)
        go_roundw
        case rel => exact ⟨k + 1, rfl, Hid.mk ⟨HKL.out, by rw [HT2.out]; exact HO.out⟩⟩
        case measure => (have := HKL.out; simp [Go.RowKit.intOf]; omega)
    · have HE : Hid (wr.ownsRow w.heap.size 3 1 u5 (pick p n).length (Iy (pick p n)) ∧ Below w.heap.size w wr) := Hid.mk (by
        have := HK.out
        rw [show k = n by omega] at this
        exact this.2)
      clear HK f2
      go_wp2
      go_ret
      exact ⟨_, rfl, HE⟩
set_option maxRecDepth 100000 in
set_option maxHeartbeats 4000000 in
theorem rbufs_any (h : RgAt F w r v G) (hG : G.Ok) (hn : G.n ≤ 100000) (rd : Bool) : Calls Try.prog 21 #[ptV r, .bool rd] w fun e w' => ∃ u, e = .returned u ∧ Hid (w'.ownsRow w.heap.size 3 1 u (bufP G (fun j => !G.dn j && (mayB G j || !rd)) G.n).length (Iy (bufP G (fun j => !G.dn j && (mayB G j || !rd)) G.n)) ∧ Below w.heap.size w w') := by
  obtain ⟨ao, cap, rfl, _⟩ := h.slice
  obtain ⟨n, hnn⟩ : ∃ n, n = G.n := ⟨_, rfl⟩
  have HF : Hid (∀ W, Below w.heap.size w W → W.cell? ⟨r, 0, none⟩ = some (.slice ao n cap) ∧ (∀ j : Nat, j < n → (∃ gb, ao = some ⟨gb, 0, none⟩ ∧ W.cell? ⟨gb, j * 3, none⟩ = some (.int .i64 (G.buf j)) ∧ W.cell? ⟨gb, j * 3 + 2, none⟩ = some (.bool (G.dn j))) ∧ Calls Try.prog 34 #[ptV r, .int .i64 (j : Nat)] W fun e w' => e = .returned (.bool (mayB G j)) ∧ Below W.heap.size W w')) := Hid.mk (fun W hB => by
    have h2 := h.below hB
    rw [hnn]
    refine ⟨h2.cell, fun j hj => ⟨?_, rmay_any h2 hG j hj⟩⟩
    obtain ⟨gb, cap', e, _, _, _, _, hc⟩ := h2.at' (by omega)
    cases e
    exact ⟨gb, rfl, (hc j hj).1, (hc j hj).2.2⟩)
  rw [← hnn] at hn ⊢
  obtain ⟨p, hp⟩ : ∃ p : Nat → Bool, p = fun j : Nat => !G.dn (j : Int) && (mayB G (j : Int) || !rd) := ⟨_, rfl⟩
  rw [← hp]
  have HP : Hid (∀ j : Nat, p j = (!G.dn j && (mayB G j || !rd))) := Hid.mk (fun j => by rw [hp])
  have HN := Hid.mk hn
  clear h hG hnn hp hn
  go_enter Try.func21, Try.ntmps21
  go_wp2
  go_loopw [5, 6, 7] (fun ov kv _ wr => ∃ k : Nat, kv = .int .i64 k ∧ Hid (k ≤ n ∧ wr.ownsRow w.heap.size 3 1 ov (bufP G p k).length (Iy (bufP G p k)) ∧ Below w.heap.size w wr)) (fun _ kv _ _ => n - (Go.RowKit.intOf kv).toNat)
  case atStart => exact ⟨0, rfl, Hid.mk ⟨Nat.zero_le _, own_nil0 _ _, Below.refl _ _⟩⟩
  case round =>
    obtain ⟨k, rfl, HK⟩ := hrel
    obtain ⟨f1, f2⟩ := HF.out wr HK.out.2.2
    by_cases hkl : (k : Int) < (n : Int)
    · have v1 : IntKind.i64.wrap ((k : Int) + 1) = ((k + 1 : Nat) : Int) := by have := HN.out; rw [IntKind.wrap_i64]; omega
      have HKL : Hid (k < n) := Hid.mk (by omega)
      have HM := Hid.mk (f2 k HKL.out).2
      have k0 : (0 : Int) ≤ ((k : Nat) : Int) := by omega
      have HW1 : Hid (∀ w1, Below wr.heap.size wr w1 → w1.cell? ⟨r, 0, none⟩ = some (.slice ao n cap) ∧ ∃ gb, ao = some ⟨gb, 0, none⟩ ∧ w1.cell? ⟨gb, k * 3, none⟩ = some (.int .i64 (G.buf k)) ∧ w1.cell? ⟨gb, k * 3 + 2, none⟩ = some (.bool (G.dn k))) := Hid.mk (fun w1 hB => by
        obtain ⟨a1, a2⟩ := HF.out w1 (HK.out.2.2.trans (hB.mono HK.out.2.2.size))
        exact ⟨a1, (a2 k HKL.out).1⟩)
      have HT : Hid (bufP G p (k + 1) = if p k then insS (G.buf k) (bufP G p k) else bufP G p k) := Hid.mk rfl
      have HPK := Hid.mk (HP.out k)
      have HOW : Hid (∀ w1, Below wr.heap.size wr w1 → w1.ownsRow w.heap.size 3 1 u5 (bufP G p k).length (Iy (bufP G p k)) ∧ Below w.heap.size w w1) := Hid.mk (fun w1 hB1 => ⟨own_same HK.out.2.1 (fun g hg => hB1.block g (owns_lt HK.out.2.1 hg)), HK.out.2.2.trans (hB1.mono HK.out.2.2.size)⟩)
      have HPT : Hid (∀ w1 x, w1.ownsRow w.heap.size 3 1 u5 (bufP G p k).length (Iy (bufP G p k)) ∧ Below w.heap.size w w1 → Calls Try.prog 37 #[u5, .int .i64 x] w1 fun e w' => ∃ v', e = .returned v' ∧ Hid (w'.ownsRow w.heap.size 3 1 v' (insS x (bufP G p k)).length (Iy (insS x (bufP G p k))) ∧ Below w.heap.size w w')) := Hid.mk (fun w1 x hq => by
        refine (put_any hq.1 hq.2.size x (by have := bufP_len G p k; have := HKL.out; have := HN.out; omega)).mono ?_
        rintro e w' ⟨v', rfl, HQ⟩
        exact ⟨v', rfl, Hid.mk ⟨HQ.out.1, hq.2.trans (HQ.out.2.mono hq.2.size)⟩⟩)
      generalize G.buf k = bk at HW1 HT
      generalize G.dn k = dk at HW1 HPK
      generalize mayB G k = mk at HM HPK
      clear f2 HK
      cases hpk : p k with
      | false =>
        have HT2 : Hid (bufP G p (k + 1) = bufP G p k) := Hid.mk (by rw [HT.out, hpk]; rfl)
        have hq := HPK.out
        rw [hpk] at hq
        clear hpk
        cases dk <;> cases mk <;> cases rd <;> (try (exfalso; revert hq; decide)) <;> (
          clear hq
          go_wp2_with (first
            | (go_at_call 34; refine HM.out.mono ?_; rintro e w1 ⟨rfl, hb1⟩; obtain ⟨g1, gb, rfl, g2, g3⟩ := HW1.out w1 hb1; have e9 : (⟨gb, 0, none⟩ : Addr).add (k * 3) = ⟨gb, k * 3, none⟩ := (by rw [add_at]; simp); have HO := Hid.mk (HOW.out w1 hb1); clear hb1 HM HW1 HOW)
            | go_in)
          go_roundw
          case rel => exact ⟨k + 1, rfl, Hid.mk ⟨HKL.out, by rw [HT2.out]; exact HO.out⟩⟩
          case measure => (have := HKL.out; simp [Go.RowKit.intOf]; omega))
      | true =>
        have HT2 : Hid (bufP G p (k + 1) = insS bk (bufP G p k)) := Hid.mk (by rw [HT.out, hpk]; rfl)
        have hq := HPK.out
        rw [hpk] at hq
        clear hpk
        cases dk <;> cases mk <;> cases rd <;> (try (exfalso; revert hq; decide)) <;> (
          clear hq
          go_wp2_with (first
            | (go_at_call 34; refine HM.out.mono ?_; rintro e w1 ⟨rfl, hb1⟩; obtain ⟨g1, gb, rfl, g2, g3⟩ := HW1.out w1 hb1; have e9 : (⟨gb, 0, none⟩ : Addr).add (k * 3) = ⟨gb, k * 3, none⟩ := (by rw [add_at]; simp); have HPU := Hid.mk (HPT.out w1 bk (HOW.out w1 hb1)); clear hb1 HM HW1 HOW HPT)
            | (go_at_call 37; refine HPU.out.mono ?_; rintro e w2 ⟨v2, rfl, H2⟩; clear HPU)
            | go_in)
          go_roundw
          case rel => exact ⟨k + 1, rfl, Hid.mk ⟨HKL.out, by rw [HT2.out]; exact H2.out⟩⟩
          case measure => (have := HKL.out; simp [Go.RowKit.intOf]; omega))
    · have HE : Hid (wr.ownsRow w.heap.size 3 1 u5 (bufP G p n).length (Iy (bufP G p n)) ∧ Below w.heap.size w wr) := Hid.mk (by
        have := HK.out
        rw [show k = n by omega] at this
        exact this.2)
      clear HK f2
      go_wp2
      go_ret
      exact ⟨_, rfl, HE⟩
end
end Go.Proofs.Ythmbhcmicebcpaa
