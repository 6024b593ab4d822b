/-
  WalkFinds: its walk.
-/
import Derived.Test.YtbahbhaoimabdaaWkRPaths2
import Derived.Test.YtbahbhaoimabdaaWkBig
import Derived.Test.YtbahbhaoimabdaaWkAlive
namespace Go.Proofs.Ytbahbhaoimabdaa
open Go Go.Proofs Go.RowKit Go.Shelf

/-- The slots of the nodes that were not gone into. -/
def restS (Nd : Nat → NoV) (G : Gone) : Nat → Nat
  | 0 => 0
  | k + 1 => restS Nd G k + if G k = true then 0 else (Nd k).sn
theorem rest_out {Nd : Nat → NoV} {G : Gone} {d : Nat} (k : Nat) (h : k ≤ d) : restS Nd (goneF G d) k = restS Nd G k := by
  induction k with
  | zero => rfl
  | succ k ih =>
    rw [restS, restS, ih (by omega)]
    have : goneF G d k = G k := by unfold goneF; rw [if_neg (by omega)]
    rw [this]
theorem rest_in {Nd : Nat → NoV} {G : Gone} {d : Nat} (hg : G d = false) (k : Nat) (h : d < k) : restS Nd (goneF G d) k + (Nd d).sn = restS Nd G k := by
  induction k with
  | zero => omega
  | succ k ih =>
    rw [restS, restS]
    by_cases e : d = k
    · subst e
      rw [rest_out d (Nat.le_refl _), hg]
      simp [goneF]
    · have h1 := ih (by omega)
      have : goneF G d k = G k := by unfold goneF; rw [if_neg (by omega)]
      rw [this]
      omega
theorem into_len {m : Nat} {Nd : Nat → NoV} : ∀ (f : Nat) (G : Gone) (d : Nat) (pre : ByteArray), d < m → G d = false → (intoS m Nd f G d pre).1.length + restS Nd (intoS m Nd f G d pre).2 m ≤ restS Nd G m := by
  intro f
  induction f with
  | zero => intro G d pre hd hg; simp [intoS]
  | succ f ih =>
    intro G d pre hd hg
    rw [intoS]
    have step : ∀ j, (slotS m Nd (intoS m Nd f) pre (Nd d).E (goneF G d) j).1.length + restS Nd (slotS m Nd (intoS m Nd f) pre (Nd d).E (goneF G d) j).2 m ≤ j + restS Nd (goneF G d) m := by
      intro j
      induction j with
      | zero => simp [slotS]
      | succ j jh =>
        rw [slotS]
        generalize slotS m Nd (intoS m Nd f) pre (Nd d).E (goneF G d) j = r at *
        unfold stepS
        split
        · omega
        · split
          · rename_i t ht
            split
            · rename_i hc
              have h1 := ih r.2 t (catB pre ((Nd d).E j).nm) (firstN_some ht).1 hc.2
              simp only [List.length_append, List.length_cons]
              omega
            · simp only [List.length_append, List.length_cons, List.length_nil]
              omega
          · simp only [List.length_append, List.length_cons, List.length_nil]
            omega
    have h1 := step (Nd d).sn
    have h2 := rest_in (Nd := Nd) hg m hd
    omega
theorem rest_zero (Nd : Nat → NoV) (k : Nat) : ∀ j, j < k → (Nd j).sn ≤ restS Nd noG k := by
  induction k with
  | zero => intro j hj; omega
  | succ k ih =>
    intro j hj
    rw [restS]
    by_cases e : j = k
    · subst e; simp [noG]
    · have := ih j (by omega)
      omega
theorem paths_len (m : Nat) (Nd : Nat → NoV) : (pathsS m Nd).length ≤ restS Nd noG m := by
  unfold pathsS
  cases hq : firstN m Nd 1 with
  | none => simp
  | some t =>
    dsimp only
    split
    · have := into_len (m := m) (Nd := Nd) 501 noG t ⟨#[]⟩ (firstN_some hq).1 rfl
      omega
    · simp
theorem wrap64_id {x : Int} (h0 : -9223372036854775808 ≤ x) (h1 : x ≤ 9223372036854775807) : wrap64 x = x := by
  unfold wrap64
  omega
/-- What is not too big. -/
theorem big_small {N : Nat → NoV} : ∀ (f k : Nat) (s : Int), 0 ≤ s → (∀ i, k ≤ i → i < k + f → (N i).sn ≤ 8796093022208 ∧ (N i).bn ≤ 8796093022208) → bigGo N f k s = false → s + ((restS N noG (k + f) : Nat) : Int) - ((restS N noG k : Nat) : Int) ≤ 500 ∧ ∀ i, k ≤ i → i < k + f → bigIn (N i) = false := by
  intro f
  induction f with
  | zero =>
    intro k s h0 hb h
    rw [bigGo] at h
    have := of_decide_eq_false h
    exact ⟨by rw [Nat.add_zero]; omega, fun i h1 h2 => by omega⟩
  | succ f ih =>
    intro k s h0 hb h
    rw [bigGo] at h
    by_cases hs : s ≤ 500
    · rw [if_pos hs] at h
      by_cases hi : bigIn (N k) = true
      · rw [if_pos hi] at h; cases h
      · rw [if_neg hi] at h
        obtain ⟨b1, b2⟩ := hb k (Nat.le_refl _) (by omega)
        rw [wrap64_id (x := s + ((N k).sn : Int)) (by omega) (by omega), wrap64_id (by omega) (by omega)] at h
        obtain ⟨g1, g2⟩ := ih (k + 1) _ (by omega) (fun i h1 h2 => hb i (by omega) (by omega)) h
        have e : restS N noG (k + 1) = restS N noG k + (N k).sn := by rw [restS]; simp [noG]
        rw [show k + 1 + f = k + (f + 1) by omega] at g1 g2
        refine ⟨by rw [e] at g1; push_cast at g1; omega, fun i h1 h2 => ?_⟩
        rcases Nat.eq_or_lt_of_le h1 with e | e
        · subst e; simpa using hi
        · exact g2 i (by omega) h2
    · rw [if_neg hs] at h; cases h
theorem bigIn_names {x : NoV} (h : bigIn x = false) (hs : x.sn ≤ 500) : ∀ j, j < x.sn → (x.E j).nm.size ≤ 1000 := fun j hj => by
  rcases Nat.lt_or_ge 1000 (x.E j).nm.size with h1 | h1
  · rw [bigIn_slot hj (by omega) h1] at h; cases h
  · exact h1
/-- What nodes that are not too big are. -/
theorem big_no {m : Nat} {N : Nat → NoV} (hm : m ≤ 8796093022208) (hb : ∀ i, i < m → (N i).sn ≤ 8796093022208 ∧ (N i).bn ≤ 8796093022208) (h : bigB m N = false) : m ≤ 500 ∧ (∀ d, d < m → (N d).sn ≤ 500) ∧ (∀ d j, d < m → j < (N d).sn → ((N d).E j).nm.size ≤ 1000) ∧ (pathsS m N).length ≤ 500 := by
  unfold bigB at h
  obtain ⟨g1, g2⟩ := big_small m 0 m (by omega) (fun i _ hi => hb i (by omega)) h
  rw [Nat.zero_add] at g1 g2
  have e0 : restS N noG 0 = 0 := rfl
  rw [e0] at g1
  have hp := paths_len m N
  have hz := rest_zero N m
  have hs : ∀ d, d < m → (N d).sn ≤ 500 := fun d hd => by have := hz d hd; omega
  exact ⟨by omega, hs, fun d j hd hj => bigIn_names (g2 d (Nat.zero_le _) hd) (hs d hd) j hj, by omega⟩
set_option maxRecDepth 100000 in
set_option maxHeartbeats 4000000 in
theorem num_any (w : World) (e : Int) : Calls Try.prog 13 #[.int .i64 e] w fun r w' => r = .returned (.int .i64 e) ∧ w' = w := by
  go_enter Try.func13, Try.ntmps13
  go_wp2
  go_ret
  exact ⟨rfl, rfl⟩
set_option maxRecDepth 100000 in
set_option maxHeartbeats 4000000 in
theorem walkfinds_law (w : World) (ao : Option Addr) (m cc : Nat) (N : Nat → NoV) (s : ByteArray) (hN : NoAt w ao m N) (hm : m ≤ 8796093022208) (hb : ∀ i, i < m → (N i).sn ≤ 8796093022208 ∧ (N i).bn ≤ 8796093022208) : Calls Try.prog 3 #[.slice ao m cc, .string s] w fun e w' => e = .returned (.bool true) ∧ Below w.heap.size w w' := by
  have HAL := Hid.mk (alive_any w)
  obtain ⟨b1, hb1⟩ : ∃ b1, b1 = bigB m N := ⟨_, rfl⟩
  have HB1 : Hid (∀ W, Below w.heap.size w W → Calls Try.prog 10 #[.slice ao m cc] W fun e w' => e = .returned (.bool b1) ∧ Below W.heap.size W w') := Hid.mk (fun W hB => by rw [hb1]; exact big_any W ao m cc N (hN.blw hB) (by omega))
  cases b1 with
  | true =>
    clear hN hm hb hb1
    go_enter Try.func3, Try.ntmps3
    go_wp2_with (first | (go_at_call 9; with_reducible refine HAL.out.mono ?_; rintro e W ⟨rfl, hB⟩; have BB := Hid.mk hB; clear hB HAL) | (go_at_call 10; with_reducible refine (HB1.out _ BB.out).mono ?_; rintro e W ⟨rfl, hB⟩; replace BB := Hid.mk (BB.out.trans (hB.mono BB.out.size)); clear hB HB1))
    go_ret
    exact ⟨rfl, BB.out⟩
  | false =>
    obtain ⟨k1, k2, k3, k4⟩ := big_no hm hb hb1.symm
    by_cases hs : 2000 < s.size
    · have hsi : (2000 : Int) < (s.size : Int) := by omega
      clear hN hm hb hb1 k1 k2 k3 k4
      go_enter Try.func3, Try.ntmps3
      go_wp2_with (first | (go_at_call 9; with_reducible refine HAL.out.mono ?_; rintro e W ⟨rfl, hB⟩; have BB := Hid.mk hB; clear hB HAL) | (go_at_call 10; with_reducible refine (HB1.out _ BB.out).mono ?_; rintro e W ⟨rfl, hB⟩; replace BB := Hid.mk (BB.out.trans (hB.mono BB.out.size)); clear hB HB1))
      go_ret
      exact ⟨rfl, BB.out⟩
    · have hsi : ¬ (2000 : Int) < (s.size : Int) := by omega
      have HF : Hid (∀ W, Below w.heap.size w W → Calls Try.prog 11 #[.slice ao m cc, .string s] W fun e w' => e = .returned (.tuple #[.int .i64 ((findS m N s).1 : Nat), .int .i64 ((findS m N s).2 : Nat)]) ∧ Below W.heap.size W w') := Hid.mk (fun W hB => find_any W ao m cc N s (hN.blw hB) (by omega) (by omega))
      have HRF : Hid (∀ W, Below w.heap.size w W → Calls Try.prog 12 #[.slice ao m cc, .string s] W fun e w' => e = .returned (.tuple #[.int .i64 ((findS m N s).1 : Nat), .int .i64 ((findS m N s).2 : Nat)]) ∧ Below W.heap.size W w') := Hid.mk (fun W hB => rfind_any W ao m cc N s (hN.blw hB) (by omega) (by omega))
      have HP : Hid (∀ W, Below w.heap.size w W → Calls Try.prog 14 #[.slice ao m cc] W fun e w' => ∃ v, e = .returned v ∧ w'.ownsRow W.heap.size 9 1 v (pathsS m N).length (Sb (pathsS m N)) ∧ Below W.heap.size W w') := Hid.mk (fun W hB => paths_any W ao m cc N (hN.blw hB) k3 (by omega) (by omega))
      have HRP : Hid (∀ W, Below w.heap.size w W → Calls Try.prog 15 #[.slice ao m cc] W fun e w' => ∃ v, e = .returned v ∧ w'.ownsRow W.heap.size 9 1 v (pathsS m N).length (Sb (pathsS m N)) ∧ Below W.heap.size W w') := Hid.mk (fun W hB => rpaths_any W ao m cc N (hN.blw hB) k3 (by omega) (by omega))
      have HLE := Hid.mk k4
      clear hN hm hb hb1 k1 k2 k3 k4
      generalize findS m N s = fs at *
      obtain ⟨fa, fe⟩ := fs
      dsimp only at HF HRF
      generalize hL : pathsS m N = L at *
      clear hL
      go_enter Try.func3, Try.ntmps3
      go_upto_region 11 with (first
        | (go_at_call 9; with_reducible refine HAL.out.mono ?_; rintro e W ⟨rfl, hB⟩; have BB := Hid.mk hB; clear hB HAL)
        | (go_at_call 10; with_reducible refine (HB1.out _ BB.out).mono ?_; rintro e W ⟨rfl, hB⟩; replace BB := Hid.mk (BB.out.trans (hB.mono BB.out.size)); clear hB HB1)
        | (go_at_call 11; with_reducible refine (HF.out _ BB.out).mono ?_; rintro e W ⟨rfl, hB⟩; replace BB := Hid.mk (BB.out.trans (hB.mono BB.out.size)); clear hB HF)
        | (go_at_call 12; with_reducible refine (HRF.out _ BB.out).mono ?_; rintro e W ⟨rfl, hB⟩; replace BB := Hid.mk (BB.out.trans (hB.mono BB.out.size)); clear hB HRF)
        | (go_at_call 13; refine (num_any _ _).mono ?_; rintro r W8 ⟨rfl, hW8⟩; subst hW8)
        | (go_at_call 14; with_reducible refine (HP.out _ BB.out).mono ?_; rintro e W3 ⟨v3, rfl, h3, hB⟩; obtain ⟨a3, c3, rfl⟩ := owns_slice h3; have H3 := Hid.mk h3; replace BB := Hid.mk (BB.out.trans (hB.mono BB.out.size)); clear hB HP h3)
        | (go_at_call 15; with_reducible refine (HRP.out _ BB.out).mono ?_; rintro e W4 ⟨v4, rfl, h4, hB⟩; obtain ⟨a4, c4, rfl⟩ := owns_slice h4; have H4 := Hid.mk h4; have HB4 := Hid.mk hB; replace BB := Hid.mk (BB.out.trans (hB.mono BB.out.size)); clear hB HRP h4))
      have HROW : Hid (∀ (W : World) (j : Nat), Below W4.heap.size W4 W → j < L.length → ∃ g3 g4, a3 = some ⟨g3, 0, none⟩ ∧ a4 = some ⟨g4, 0, none⟩ ∧ W.cell? ⟨g3, j, none⟩ = some (.string (L.getD j ⟨#[]⟩)) ∧ W.cell? ⟨g4, j, none⟩ = some (.string (L.getD j ⟨#[]⟩))) := Hid.mk (fun W j hB hj => by
        obtain ⟨g3, q3, e3, -, l3, r3⟩ := owns_str H3.out (by omega)
        obtain ⟨g4, q4, e4, -, l4, r4⟩ := owns_str H4.out (by omega)
        cases e3
        cases e4
        refine ⟨g3, g4, rfl, rfl, ?_, ?_⟩
        · rw [World.cell?_of_block (w := W3) (a := ⟨g3, j, none⟩) ((hB.block _ (Nat.lt_of_lt_of_le l3 HB4.out.size)).trans (HB4.out.block _ l3))]
          exact r3 j hj
        · rw [World.cell?_of_block (w := W4) (a := ⟨g4, j, none⟩) (hB.block _ l4)]
          exact r4 j hj)
      clear H3 H4 HB4
      generalize hll : L.length = ll at *
      go_wp2
      go_loopw [13] (fun iv wr => ∃ j : Nat, j ≤ ll ∧ iv = .int .i64 (j : Int) ∧ Hid (Below W4.heap.size W4 wr)) (fun iv _ => ((ll : Int) - Go.RowKit.intOf iv).toNat)
      case atStart => exact ⟨0, by omega, rfl, Hid.mk (Below.refl _ _)⟩
      case round =>
        obtain ⟨j, hj, rfl, HK⟩ := hrel
        by_cases hlt : j < ll
        · obtain ⟨g3, g4, rfl, rfl, y3, y4⟩ := HROW.out wr j HK.out hlt
          generalize L.getD j ⟨#[]⟩ = t at *
          have hj0 : (0 : Int) ≤ (j : Int) := by omega
          have hjl : (j : Int) < (ll : Int) := by omega
          have hjj : IntKind.i64.wrap ((j : Int) + 1) = (j : Int) + 1 := by have := HLE.out; rw [IntKind.wrap_i64]; omega
          have hse : (t.toList == t.toList) = true := by simp
          have hsn : (t.toList != t.toList) = false := by simp
          go_upto_region 16 with fail
          go_quiet (fail)
          go_wp2
          go_roundw
          case rel => exact ⟨j + 1, hlt, by push_cast; rfl, Hid.mk (HK.out.trans ((blw_drewN (Below.refl wr.heap.size wr) _).mono HK.out.size))⟩
          case measure => simp [Go.RowKit.intOf]; omega
        · obtain rfl : j = ll := by omega
          go_wp2
          refine bodyPost_ret (results_tmp rfl _ _ _) rfl ?_
          exact ⟨rfl, BB.out.trans (HK.out.mono BB.out.size)⟩
end Go.Proofs.Ytbahbhaoimabdaa
