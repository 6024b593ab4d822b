/-
  DepsOne: changes of one buffer that hang on each other are written one by one.
-/
import Derived.Test.YthmbhcmicebcpaaDpOneA
namespace Go.Proofs.Ythmbhcmicebcpaa
open Go Go.Proofs Go.RowKit Go.Shelf
theorem one_next (n k : Nat) : (((oneA n k).bf 5).map (·.nx)).getD [] = if k < n then [(k : Int)] else [] := by
  show ((oneB n k 5).map _).getD [] = _
  unfold oneB
  by_cases h : k < n
  · rw [if_pos ⟨rfl, h⟩, if_pos h]; rfl
  · rw [if_neg (by simp [h]), if_neg h]; rfl
theorem one_blocked (n k : Nat) : (((oneA n k).bf 5).map (·.bl)).getD [] = rr (k + 1) n := by
  show ((oneB n k 5).map _).getD [] = _
  unfold oneB
  by_cases h : k < n
  · rw [if_pos ⟨rfl, h⟩]; rfl
  · rw [if_neg (by simp [h]), rr_nil (by omega)]; rfl
theorem one_write {X : Nat → Prop} {w W : World} {g n k : Nat} (h : DpO X w W g (oneA n k)) (hn : n ≤ 100) (hk : k < n) :
    Calls Try.prog 25 #[ptV g, .int .i64 5] W fun e W' => ∃ ao c, e = .returned (.slice ao 1 c) ∧ Hid (LAt W' ao 1 [(k : Int)] ∧ DpO X w W' g (oneA n (k + 1))) := by
  refine (o_written (S := [(k : Int)]) h (wf7 5 (by omega)) (by rw [one_next, if_pos hk]) (by simp) (by simp) (fun j hj => ?_) (fun j hj => ?_)).mono ?_
  · obtain rfl : j = 0 := by simpa using hj
    show (oneA n k).Ok ∧ ∃ c, oneC n k k = some c ∧ (∀ y ∈ c.ab, y ≠ (k : Int) ∧ (oneC n k y).isSome = true) ∧ c.ab.length ≤ 1000000000
    refine ⟨(one_fit n k hn).ok, ⟨5, [], if (k : Int) + 1 < n then [(k : Int) + 1] else []⟩, ?_, fun y hy => ?_, ?_⟩
    · unfold oneC
      rw [if_pos (by omega), if_pos rfl]
    · by_cases hl : (k : Int) + 1 < n
      · have hy' : y ∈ [(k : Int) + 1] := by simpa [hl] using hy
        rw [List.mem_singleton.1 hy']
        refine ⟨by omega, ?_⟩
        unfold oneC
        rw [if_pos (by omega)]
        rfl
      · simp [hl] at hy
    · show (if _ then _ else _ : List Int).length ≤ _
      split <;> simp
  · obtain rfl : j = 0 := by simpa using hj
    show (oneC n k k).isSome = true
    unfold oneC
    rw [if_pos (by omega)]
    rfl
  · rintro e W' ⟨v, rfl, hr, h', _⟩
    obtain ⟨ao, c, rfl, hl⟩ := owns_lat hr
    refine ⟨ao, c, rfl, Hid.mk ⟨hl, ?_⟩⟩
    have e1 : (oneA n k).fins [(k : Int)] = oneA n (k + 1) := by
      unfold Ga.fins
      rw [List.foldl_cons, List.foldl_nil, one_finish n k hk]
    rw [← e1]
    exact h'
theorem one_last {X : Nat → Prop} {w W : World} {g n : Nat} (h : DpO X w W g (oneA n n)) :
    Calls Try.prog 25 #[ptV g, .int .i64 5] W fun e W' => ∃ ao c, e = .returned (.slice ao 0 c) ∧ Hid (Below w.heap.size w W') := by
  refine (o_written (S := []) h (wf7 5 (by omega)) (by rw [one_next, if_neg (by omega)]) (by simp) (by simp) (fun j hj => by simp at hj) (fun j hj => by simp at hj)).mono ?_
  rintro e W' ⟨v, rfl, hr, h', _⟩
  obtain ⟨ao, c, rfl, hl⟩ := owns_lat hr
  exact ⟨ao, c, rfl, Hid.mk h'.bel⟩
theorem one_block {X : Nat → Prop} {w W : World} {g n k : Nat} (h : DpO X w W g (oneA n k)) (hn : n ≤ 100) :
    Calls Try.prog 18 #[ptV g, .int .i64 5] W fun e W' => ∃ ao c, e = .returned (.slice ao (n - (k + 1)) c) ∧ Hid (DpO X w W' g (oneA n k)) := by
  refine (o_blocked h (one_fit n k hn).ok (wf7 5 (by omega))).mono ?_
  rintro e W' ⟨v, rfl, hr, hB⟩
  rw [one_blocked, rr_len] at hr
  obtain ⟨ao, c, rfl, hl⟩ := owns_lat hr
  exact ⟨ao, c, rfl, Hid.mk (h.grow hB)⟩
theorem one_put0 {w W : World} {g : Nat} (h : DpO (fun _ => False) w W g (oneA 0 0)) :
    Calls Try.prog 27 #[ptV g, .int .i64 5, .slice none 0 0] W fun e W' => ∃ u, e = .returned u ∧ Hid (DpO (fun _ => False) w W' g (oneA 1 0)) := by
  refine (o_add h (one_fit 0 0 (by omega)) 5 (wf7 5 (by omega)) none 0 0 [] ⟨rfl, fun h => by omega⟩ (by omega) (fun a e => by cases e) rfl).mono ?_
  rintro e W' ⟨rfl, h', _⟩
  have := one_add 0
  rw [show oneX 0 = [] from rfl] at this
  rw [this] at h'
  exact ⟨_, rfl, Hid.mk h'⟩
theorem one_put {w W : World} {g n : Nat} (h : DpO (fun _ => False) w W g (oneA n 0)) (hn : 0 < n) (hb : n ≤ 100) (x : Int) (hx : x = (n : Int) - 1) :
    Calls Try.prog 27 #[ptV g, .int .i64 5, .slice (some ⟨W.heap.size, 0, none⟩) 1 1] (W.alloc (.cells #[.int .i64 x] 3)) fun e W' => ∃ u, e = .returned u ∧ Hid (DpO (fun _ => False) w W' g (oneA (n + 1) 0)) := by
  subst hx
  have h2 : DpO (fun k => k = W.heap.size) w (W.alloc (.cells #[.int .i64 ((n : Int) - 1)] 3)) g (oneA n 0) := h.side ((Only.refl (fun _ => False) W).alloc _) (fun _ h => h.elim) (fun k hk => by subst hk; exact ⟨by simp, .inr (Nat.le_refl _)⟩)
  refine (o_add h2 (one_fit n 0 hb) 5 (wf7 5 (by omega)) _ 1 1 [(n : Int) - 1] (lat_one W _) (by omega) (fun a e _ => by cases e; rfl) ?_).mono ?_
  · show ([(n : Int) - 1].any (noneB n)) = false
    simp [noneB]
    omega
  · rintro e W' ⟨rfl, h', _⟩
    have := one_add n
    rw [show oneX n = [(n : Int) - 1] by unfold oneX; rw [if_neg (by omega)]] at this
    rw [this] at h'
    exact ⟨_, rfl, Hid.mk (h'.side (Only.refl (fun _ => False) W') (fun _ h => h.elim) (fun k hk => hk.elim))⟩
theorem one_same {X : Nat → Prop} {w W : World} {g : Nat} {A : Ga} (h : DpO X w W g A) {ao : Option Addr} {c : Nat} {x : Int} (hl : LAt W ao 1 [x]) :
    Calls Try.prog 15 #[.slice ao 1 c, .slice (some ⟨W.heap.size, 0, none⟩) 1 1] (W.alloc (.cells #[.int .i64 x] 3)) fun e W' => e = .returned (.bool true) ∧ DpO X w W' g A := by
  have hB : Below W.heap.size W (W.alloc (.cells #[.int .i64 x] 3)) := (Below.refl _ W).alloc (Nat.le_refl _) _
  refine (sameints_any _ ao _ 1 1 c 1 [x] [x] (hl.next hB) (lat_one W x) (by omega) (by omega)).mono ?_
  rintro e W' ⟨rfl, hB2⟩
  exact ⟨by simp, (h.grow hB).grow hB2⟩
set_option maxRecDepth 100000 in
set_option maxHeartbeats 4000000 in
theorem one_any (w : World) (n : Int) : Calls Try.prog 7 #[.int .i64 n] w fun e w' => e = .returned (.bool true) ∧ Below w.heap.size w w' := by
  have HAL := Hid.mk (alive_any w)
  by_cases h1 : n < 1
  · go_enter Try.func7, Try.ntmps7
    go_wp2_with (go_at_call 9; refine HAL.out.mono ?_; rintro e w1 ⟨rfl, hb1⟩; have HB1 := Hid.mk hb1; clear hb1 HAL)
    go_ret
    exact ⟨rfl, HB1.out⟩
  by_cases h2 : 60 < n
  · go_enter Try.func7, Try.ntmps7
    go_wp2_with (go_at_call 9; refine HAL.out.mono ?_; rintro e w1 ⟨rfl, hb1⟩; have HB1 := Hid.mk hb1; clear hb1 HAL)
    go_ret
    exact ⟨rfl, HB1.out⟩
  obtain ⟨N, hN⟩ : ∃ N : Nat, n = N := ⟨n.toNat, by omega⟩
  subst hN
  have HN : Hid (1 ≤ N ∧ N ≤ 60) := Hid.mk (by omega)
  have HNEW : Hid (∀ W, Below w.heap.size w W → Calls Try.prog 28 #[] W fun e W' => ∃ gg, e = .returned (ptV gg) ∧ Hid (DpO (fun _ => False) w W' gg (oneA 0 0))) := Hid.mk (fun W hB => (o_new hB).mono (by
    rintro e W' ⟨rfl, h⟩
    rw [one_zero] at h
    exact ⟨_, rfl, Hid.mk h⟩))
  go_enter Try.func7, Try.ntmps7
  go_wp2_with (first
    | (go_at_call 9; refine HAL.out.mono ?_; rintro e w1 ⟨rfl, hb1⟩; have HB1 := Hid.mk hb1; clear hb1 HAL)
    | (go_at_call 28; refine (HNEW.out _ HB1.out).mono ?_; rintro e w2 ⟨gg, rfl, H2⟩; clear HNEW HB1))
  go_loopw [5, 6] (fun iv _ wr => ∃ i : Nat, iv = .int .i64 i ∧ Hid (i ≤ N) ∧ Hid (DpO (fun _ => False) w wr gg (oneA i 0))) (fun iv _ _ => N - (Go.RowKit.intOf iv).toNat)
  case atStart => exact ⟨0, rfl, Hid.mk (Nat.zero_le _), H2⟩
  case round =>
    obtain ⟨i, rfl, hi, HD⟩ := hrel
    clear H2
    by_cases hlt : (i : Int) < (N : Int)
    · have hiN : i < N := by omega
      have u1 : IntKind.i64.wrap ((i : Int) + 1) = ((i + 1 : Nat) : Int) := by have := HN.out; rw [IntKind.wrap_i64]; omega
      have HIN := Hid.mk hiN
      by_cases h0 : i = 0
      · subst h0
        have HP := Hid.mk (one_put0 HD.out)
        clear hiN
        go_wp2_with (go_at_call 27; refine HP.out.mono ?_; rintro e w3 ⟨u, rfl, H3⟩)
        go_roundw
        case rel => exact ⟨1, rfl, Hid.mk HIN.out, H3⟩
        case measure => (have := HIN.out; simp [Go.RowKit.intOf]; omega)
      · have h3 : (0 : Int) < (i : Int) := by omega
        obtain ⟨x, hx⟩ : ∃ x : Int, x = (i : Int) - 1 := ⟨_, rfl⟩
        have u2 : IntKind.i64.wrap ((i : Int) - 1) = x := by have := HN.out; rw [IntKind.wrap_i64]; omega
        have HP := Hid.mk (one_put HD.out (by omega) (by have := HN.out; omega) x hx)
        clear hiN hx
        go_wp2_with (go_at_call 27; refine HP.out.mono ?_; rintro e w3 ⟨u, rfl, H3⟩)
        go_roundw
        case rel => exact ⟨i + 1, rfl, Hid.mk HIN.out, H3⟩
        case measure => (have := HIN.out; simp [Go.RowKit.intOf]; omega)
    · obtain rfl : i = N := by have := hi.out; omega
      go_wp2
      go_loopw [7, 8, 9] (fun kv _ _ wr => ∃ k : Nat, kv = .int .i64 k ∧ Hid (k ≤ i) ∧ Hid (DpO (fun _ => False) w wr gg (oneA i k))) (fun kv _ _ _ => i - (Go.RowKit.intOf kv).toNat)
      case atStart => exact ⟨0, rfl, Hid.mk (Nat.zero_le _), HD⟩
      case round =>
        obtain ⟨k, rfl, hk, HE⟩ := hrel
        clear HD
        by_cases hkl : (k : Int) < (i : Int)
        · have hkN : k < i := by omega
          have u1 : IntKind.i64.wrap ((k : Int) + 1) = ((k + 1 : Nat) : Int) := by have := HN.out; rw [IntKind.wrap_i64]; omega
          obtain ⟨t, ht⟩ : ∃ t : Nat, t = i - (k + 1) := ⟨_, rfl⟩
          obtain ⟨d, hd⟩ : ∃ d : Int, d = (i : Int) - (k : Int) := ⟨_, rfl⟩
          have u2 : IntKind.i64.wrap ((i : Int) - (k : Int)) = d := by have := HN.out; rw [IntKind.wrap_i64]; omega
          have u3 : IntKind.i64.wrap (d - 1) = (t : Int) := by have := HN.out; rw [IntKind.wrap_i64]; omega
          have HKN := Hid.mk hkN
          have HBL := Hid.mk (one_block HE.out (by have := HN.out; omega))
          rw [← ht] at HBL
          clear ht hd hkN
          go_wp2_with (first
            | (go_at_call 18; refine HBL.out.mono ?_; rintro e w4 ⟨ao4, c4, rfl, H4⟩; have HWR := Hid.mk (one_write H4.out (by have := HN.out; omega) HKN.out); clear HBL)
            | (go_at_call 25; refine HWR.out.mono ?_; rintro e w5 ⟨ao5, c5, rfl, H5⟩; have HSM := Hid.mk (fun c => one_same (c := c) H5.out.2 H5.out.1); clear HWR)
            | (go_at_call 15; refine (HSM.out _).mono ?_; rintro e w6 ⟨rfl, h6⟩; have H6 := Hid.mk h6; clear h6 HSM))
          go_roundw
          case rel => exact ⟨k + 1, rfl, Hid.mk HKN.out, H6⟩
          case measure => (have := HKN.out; simp [Go.RowKit.intOf]; omega)
        · obtain rfl : k = i := by have := hk.out; omega
          have HLF := Hid.mk (o_left HE.out)
          have hnl : (oneA k k).nl = 0 := by show k - k = 0; omega
          rw [hnl] at HLF
          have HLA := Hid.mk (one_last HE.out)
          go_wp2_with (first
            | (go_at_call 13; refine HLF.out.mono ?_; rintro e w7 ⟨rfl, hw7⟩; have hw7' := hw7.symm; clear hw7; subst hw7')
            | (go_at_call 25; refine HLA.out.mono ?_; rintro e w8 ⟨ao8, c8, rfl, H8⟩))
          go_ret
          exact ⟨rfl, H8.out⟩
end Go.Proofs.Ythmbhcmicebcpaa
