/-
  The law DepsChain.
-/
import Derived.Test.YthmbhcmicebcpaaDpChA
namespace Go.Proofs.Ythmbhcmicebcpaa
open Go Go.Proofs Go.RowKit Go.Shelf
attribute [local go_sem] Oper.semAt_some
/-- A chain in memory, made since w. -/
def CS (N : Nat) (bk : Bool) (w : World) (g n k : Nat) (W : World) : Prop := ∃ G A, DpO (fun _ => False) w W g A ∧ Rel G A ∧ G.Ok ∧ Ch N bk n k G
section
variable {N : Nat} {bk : Bool} {w W W' : World} {g n k : Nat}
theorem CS.grow (h : CS N bk w g n k W) (hB : Below W.heap.size W W') : CS N bk w g n k W' := by
  obtain ⟨G, A, h1, h2, h3, h4⟩ := h
  exact ⟨G, A, h1.grow hB, h2, h3, h4⟩
theorem CS.bel (h : CS N bk w g n k W) : Below w.heap.size w W := by
  obtain ⟨G, A, h1, _⟩ := h
  exact h1.bel
theorem bufC_wf (hN : N ≤ 80) {j : Nat} (hj : j ≤ 80) : (Lit.int .i64 (bufC N bk j)).wf = true := by
  refine WalkArith.wf_i64 ?_
  unfold bufC
  split <;> omega
theorem lat_new (W : World) (x : Int) : LAt (W.alloc (.cells #[.int .i64 x] 3)) (some ⟨W.heap.size, 0, none⟩) 1 [x] := by
  have hb := blk_new W (.cells #[.int .i64 x] 3)
  refine ⟨rfl, fun _ => ⟨_, rfl, lt_of_block hb, fun j hj => ?_⟩⟩
  match j, hj with
  | 0, _ => rw [add_at, blk_cell hb]; rfl
theorem c_add (h : CS N bk w g n 0 W) (hN : N ≤ 80) (hn : n ≤ 80) (X : Nat → Prop) (W2 : World) (hO : Only (fun _ => False) W W2) (hX : ∀ k, X k → k < W2.heap.size ∧ W.heap.size ≤ k) (ao : Option Addr) (m cc : Nat) (hx : LAt W2 ao m (if n = 0 then [] else [(n : Int) - 1])) (hm : m ≤ 1) (hro : ∀ a, ao = some a → 0 < m → X a.block) :
    Calls Try.prog 27 #[ptV g, .int .i64 (bufC N bk n), .slice ao m cc] W2 fun e W' => ∃ p q : Int, e = .returned (.tuple #[.int .i64 p, .int .i64 q]) ∧ Hid (CS N bk w g (n + 1) 0 W') := by
  obtain ⟨G, A, h1, h2, h3, h4⟩ := h
  have hv : ∀ x ∈ (if n = 0 then [] else [(n : Int) - 1]), 0 ≤ x ∧ x < (G.n : Int) := fun x hm => by
    rw [h4.n']
    split at hm
    · cases hm
    · rw [List.mem_singleton.1 hm]; omega
  have hd : DpO X w W2 g A := h1.side hO (fun _ q => q.elim) (fun k q => ⟨(hX k q).1, .inr (hX k q).2⟩)
  refine (o_add hd (rel_fit h2 h3 (by rw [h4.n']; omega)) _ (bufC_wf hN hn) ao m cc _ hx (by omega) hro ?_).mono ?_
  · rw [h2.ad]
    refine List.any_eq_false.2 (fun x hx => ?_)
    have := hv x hx
    simp [noneB]
    omega
  · rintro e W' ⟨rfl, q1, _⟩
    exact ⟨_, _, rfl, Hid.mk ⟨_, _, q1.side (Only.refl (fun _ => False) W') (fun _ q => q.elim) (fun _ q => q.elim), rel_add' h2 h3 _ _ hv, ok_add h3 (bufC_wf hN hn) hv, ch_add h4⟩⟩
theorem c_ready (h : CS N bk w g n k W) (hn : n ≤ 80) (hk : k < n) : Calls Try.prog 22 #[ptV g] W fun e W' => ∃ a c, e = .returned (.slice (some a) 1 c) ∧ Hid (LAt W' (some a) 1 [bufC N bk k] ∧ CS N bk w g n k W') := by
  obtain ⟨G, A, h1, h2, h3, h4⟩ := h
  have q := r_ready h1 h2 h3 (by rw [h4.n']; omega) (by rw [h4.n']; omega)
  rw [ch_ready h4 h3 hk] at q
  refine q.mono ?_
  rintro e W' ⟨v, rfl, HQ⟩
  obtain ⟨ao, c, rfl, hl⟩ := owns_lat HQ.out.1
  obtain ⟨a, rfl, _⟩ := hl.2 (by simp)
  exact ⟨a, c, rfl, Hid.mk ⟨hl, G, A, h1.grow HQ.out.2, h2, h3, h4⟩⟩
theorem c_need (h : CS N bk w g n k W) (hn : n ≤ 80) : Calls Try.prog 23 #[ptV g, .slice (some ⟨W.heap.size, 0, none⟩) 1 1] (W.alloc (.cells #[.int .i64 ((n : Int) - 1)] 3)) fun e W' => ∃ ao c, e = .returned (.slice ao (n - k) c) ∧ Hid (CS N bk w g n k W' ∧ Below W.heap.size W W') := by
  obtain ⟨G, A, h1, h2, h3, h4⟩ := h
  have hB : Below W.heap.size W (W.alloc (.cells #[.int .i64 ((n : Int) - 1)] 3)) := (Below.refl _ W).alloc (Nat.le_refl _) _
  have q := r_need (h1.grow hB) h2 (by rw [h4.n']; omega) _ 1 1 [(n : Int) - 1] (lat_new W _) (fun x hx => by rw [List.mem_singleton.1 hx]; exact WalkArith.wf_i64 (by omega)) (by omega)
  rw [ch_need h4] at q
  refine q.mono ?_
  rintro e W' ⟨v, rfl, HQ⟩
  obtain ⟨ao, c, rfl, _⟩ := owns_lat (n := n - k) HQ.out.1
  have hB2 : Below W.heap.size W W' := hB.trans (HQ.out.2.mono (by simp))
  exact ⟨ao, c, rfl, Hid.mk ⟨⟨G, A, h1.grow hB2, h2, h3, h4⟩, hB2⟩⟩
theorem c_done (h : CS N bk w g n k W) (hn : n ≤ 80) (hk : k < n) : Calls Try.prog 12 #[ptV g, .int .i64 (k : Int)] W fun e W' => e = .returned (.bool false) ∧ W' = W := by
  obtain ⟨G, A, h1, h2, h3, h4⟩ := h
  have q := r_done h1 h2 (k : Int) (WalkArith.wf_i64 (by omega))
  have hs : (A.ch (k : Int)).isSome = true := (h2.h.ch _).2 ((ch_und h4).2 (by omega))
  have e : (!noneB G.n (k : Int) && (A.ch (k : Int)).isNone) = false := by
    cases hc : A.ch (k : Int) with
    | none => rw [hc] at hs; cases hs
    | some c => simp
  rw [e] at q
  exact q
theorem c_written (h : CS N bk w g n k W) (hN : N ≤ 80) (hn : n ≤ 80) (hk : k < n) : Calls Try.prog 25 #[ptV g, .int .i64 (bufC N bk k)] W fun e W' => ∃ ao c, e = .returned (.slice ao 1 c) ∧ Hid (LAt W' ao 1 [(k : Int)] ∧ CS N bk w g n (k + 1) W') := by
  obtain ⟨G, A, h1, h2, h3, h4⟩ := h
  have hr := rel_written h2 (bufC N bk k)
  have q := r_written h1 h2 h3 (by rw [h4.n']; omega) (bufC_wf (bk := bk) hN (j := k) (by omega))
  rw [ch_next h4 h2 hk] at q hr
  refine q.mono ?_
  rintro e W' ⟨v, rfl, q1, q2, _⟩
  obtain ⟨ao, c, rfl, hl⟩ := owns_lat q1
  exact ⟨ao, c, rfl, Hid.mk ⟨hl, _, _, q2, hr, ok_fins h3 _, ch_fin h4⟩⟩
end
set_option maxRecDepth 100000 in
set_option maxHeartbeats 8000000 in
theorem chain_any (w : World) (a0 : Int) (bk : Bool) : Calls Try.prog 6 #[.int .i64 a0, .bool bk] w fun e w' => e = .returned (.bool true) ∧ Below w.heap.size w w' := by
  have HAL := Hid.mk (alive_any w)
  by_cases h1 : a0 < 1
  · go_enter Try.func6, Try.ntmps6
    go_wp2_with (go_at_call 9; refine HAL.out.mono ?_; rintro e w1 ⟨rfl, hb1⟩; have HB1 := Hid.mk hb1; clear hb1 HAL)
    go_ret
    exact ⟨rfl, HB1.out⟩
  by_cases h2 : 80 < a0
  · go_enter Try.func6, Try.ntmps6
    go_wp2_with (go_at_call 9; refine HAL.out.mono ?_; rintro e w1 ⟨rfl, hb1⟩; have HB1 := Hid.mk hb1; clear hb1 HAL)
    go_ret
    exact ⟨rfl, HB1.out⟩
  obtain ⟨N, rfl⟩ : ∃ N : Nat, a0 = (N : Int) := ⟨a0.toNat, by omega⟩
  have HN : Hid (1 ≤ N ∧ N ≤ 80) := Hid.mk (by omega)
  have HNEW : Hid (∀ W, Below w.heap.size w W → Calls Try.prog 28 #[] W fun e W' => ∃ g, e = .returned (ptV g) ∧ Hid (CS N bk w g 0 0 W')) := Hid.mk (fun W hB => (o_new hB).mono (by
    rintro e W' ⟨rfl, h⟩
    exact ⟨_, rfl, Hid.mk ⟨_, _, h, rel_none, ⟨fun i x h _ => (by have : i < ((0 : Nat) : Int) := h.2; omega), fun i h => (by have : i < ((0 : Nat) : Int) := h.2; omega)⟩, ch_none N bk⟩⟩))
  go_enter Try.func6, Try.ntmps6
  go_wp2_with (first
    | (go_at_call 9; refine HAL.out.mono ?_; rintro e w1 ⟨rfl, hb1⟩; have HB1 := Hid.mk hb1; clear hb1 HAL)
    | (go_at_call 28; refine (HNEW.out _ HB1.out).mono ?_; rintro e w2 ⟨g, rfl, H2⟩; clear HNEW)
    | go_in)
  go_loopw [7, 8, 9] (fun iv _ _ wr => ∃ i : Nat, iv = .int .i64 i ∧ Hid (i ≤ N ∧ CS N bk w g i 0 wr)) (fun iv _ _ _ => N - (Go.RowKit.intOf iv).toNat)
  case atStart => exact ⟨0, rfl, Hid.mk ⟨Nat.zero_le _, H2.out⟩⟩
  case round =>
    obtain ⟨i, rfl, HI⟩ := hrel
    clear H2
    by_cases hlt : (i : Int) < (N : Int)
    · have u1 : IntKind.i64.wrap ((i : Int) + 1) = ((i + 1 : Nat) : Int) := by have := HN.out; rw [IntKind.wrap_i64]; omega
      have u2 : IntKind.i64.wrap ((N : Int) - (i : Int)) = (N : Int) - (i : Int) := by have := HN.out; rw [IntKind.wrap_i64]; omega
      have u3 : IntKind.i64.wrap ((i : Int) - 1) = (i : Int) - 1 := by have := HN.out; rw [IntKind.wrap_i64]; omega
      have HLT : Hid (i < N) := Hid.mk (by omega)
      rcases Nat.eq_zero_or_pos i with hi0 | hi0
      · subst hi0
        have HADD : Hid (Calls Try.prog 27 #[ptV g, .int .i64 (bufC N bk (0 : Nat)), .slice none 0 0] wr fun e W' => ∃ p q : Int, e = .returned (.tuple #[.int .i64 p, .int .i64 q]) ∧ Hid (CS N bk w g (0 + 1) 0 W')) := Hid.mk (c_add HI.out.2 HN.out.2 (by omega) (fun _ => False) wr (Only.refl _ wr) (fun _ q => q.elim) none 0 0 ⟨rfl, fun q => by omega⟩ (by omega) (fun a e => by cases e))
        cases bk <;> (
          simp only [bufC] at HADD
          clear HI
          go_wp2_with (first
            | (go_at_call 27; refine HADD.out.mono ?_; rintro e w3 ⟨p3, q3, rfl, H3⟩; clear HADD)
            | go_in)
          go_roundw
          case rel => exact ⟨1, rfl, Hid.mk ⟨HLT.out, H3.out⟩⟩
          case measure => (have := HLT.out; simp [Go.RowKit.intOf]; omega))
      · have hgt : (0 : Int) < (i : Int) := by omega
        have HADD : Hid (Calls Try.prog 27 #[ptV g, .int .i64 (bufC N bk (i : Nat)), .slice (some ⟨wr.heap.size, 0, none⟩) 1 1] (wr.alloc (.cells #[.int .i64 ((i : Int) - 1)] 3)) fun e W' => ∃ p q : Int, e = .returned (.tuple #[.int .i64 p, .int .i64 q]) ∧ Hid (CS N bk w g (i + 1) 0 W')) := Hid.mk (c_add HI.out.2 HN.out.2 (by have := HN.out; have := HLT.out; omega) (fun k => k = wr.heap.size) _ ((Only.refl _ wr).alloc _) (fun k q => ⟨by rw [q]; simp, by rw [q]; exact Nat.le_refl _⟩) (some ⟨wr.heap.size, 0, none⟩) 1 1 (by rw [if_neg (by omega)]; exact lat_new wr _) (by omega) (fun a e _ => by cases e; rfl))
        cases bk <;> (
          simp only [bufC] at HADD
          clear HI
          go_wp2_with (first
            | (go_at_call 27; refine HADD.out.mono ?_; rintro e w3 ⟨p3, q3, rfl, H3⟩; clear HADD)
            | go_in)
          go_roundw
          case rel => exact ⟨i + 1, rfl, Hid.mk ⟨HLT.out, H3.out⟩⟩
          case measure => (have := HLT.out; simp [Go.RowKit.intOf]; omega))
    · have HC : Hid (CS N bk w g N 0 wr) := Hid.mk (by
        have := HI.out
        rw [show i = N by omega] at this
        exact this.2)
      clear HI
      go_wp2
      go_loopw [10, 11, 12, 13] (fun iv _ _ _ wr => ∃ i : Nat, iv = .int .i64 i ∧ Hid (i ≤ N ∧ CS N bk w g N i wr)) (fun iv _ _ _ _ => N - (Go.RowKit.intOf iv).toNat)
      case atStart => exact ⟨0, rfl, Hid.mk ⟨Nat.zero_le _, HC.out⟩⟩
      case round =>
        obtain ⟨k, rfl, HK⟩ := hrel
        clear HC
        by_cases hkl : (k : Int) < (N : Int)
        · have HKL : Hid (k < N) := Hid.mk (by omega)
          have v1 : IntKind.i64.wrap ((k : Int) + 1) = ((k + 1 : Nat) : Int) := by have := HN.out; rw [IntKind.wrap_i64]; omega
          have v2 : IntKind.i64.wrap ((N : Int) - (k : Int)) = ((N - k : Nat) : Int) := by have := HN.out; rw [IntKind.wrap_i64]; omega
          have v3 : IntKind.i64.wrap ((N : Int) - 1) = (N : Int) - 1 := by have := HN.out; rw [IntKind.wrap_i64]; omega
          have HRD := Hid.mk (c_ready HK.out.2 HN.out.2 HKL.out)
          have HND : Hid (∀ W, CS N bk w g N k W → Calls Try.prog 23 #[ptV g, .slice (some ⟨W.heap.size, 0, none⟩) 1 1] (W.alloc (.cells #[.int .i64 ((N : Int) - 1)] 3)) fun e W' => ∃ ao c, e = .returned (.slice ao (N - k) c) ∧ Hid (CS N bk w g N k W' ∧ Below W.heap.size W W')) := Hid.mk (fun W h => c_need h HN.out.2)
          have HDN : Hid (∀ W, CS N bk w g N k W → Calls Try.prog 12 #[ptV g, .int .i64 (k : Int)] W fun e W' => e = .returned (.bool false) ∧ W' = W) := Hid.mk (fun W h => c_done h HN.out.2 HKL.out)
          have HWR : Hid (∀ W, CS N bk w g N k W → Calls Try.prog 25 #[ptV g, .int .i64 (bufC N bk k)] W fun e W' => ∃ ao c, e = .returned (.slice ao 1 c) ∧ Hid (LAt W' ao 1 [(k : Int)] ∧ CS N bk w g N (k + 1) W')) := Hid.mk (fun W h => c_written h HN.out.2 HN.out.2 HKL.out)
          have HSA : Hid (∀ W ao c, LAt W ao 1 [(k : Int)] ∧ CS N bk w g N (k + 1) W → Calls Try.prog 15 #[.slice ao 1 c, .slice (some ⟨W.heap.size, 0, none⟩) 1 1] (W.alloc (.cells #[.int .i64 (k : Int)] 3)) fun e W' => e = .returned (.bool true) ∧ Hid (CS N bk w g N (k + 1) W')) := Hid.mk (fun W ao c h => by
            have hB : Below W.heap.size W (W.alloc (.cells #[.int .i64 (k : Int)] 3)) := (Below.refl _ W).alloc (Nat.le_refl _) _
            refine (sameints_any _ ao _ 1 1 c 1 [(k : Int)] [(k : Int)] (h.1.next hB) (lat_new W _) (by omega) (by omega)).mono ?_
            rintro e W' ⟨rfl, hB2⟩
            exact ⟨by simp, Hid.mk (h.2.grow (hB.trans (hB2.mono (by simp))))⟩)
          obtain ⟨bb, hbb⟩ : ∃ bb, bb = bufC N bk k := ⟨_, rfl⟩
          rw [← hbb] at HRD HWR
          obtain ⟨nk, hnk⟩ : ∃ nk, nk = N - k := ⟨_, rfl⟩
          rw [← hnk] at HND v2
          have z0 : ∀ a : Addr, a.add 0 = a := fun a => by simp [Addr.add]
          clear HK hbb hnk
          go_wp2_with (first
            | (go_at_call 22; refine HRD.out.mono ?_; rintro e w4 ⟨a4, c4, rfl, H4⟩; clear HRD)
            | (go_at_call 23; refine (HND.out _ H4.out.2).mono ?_; rintro e w5 ⟨a5, c5, rfl, H5⟩; have HDN5 := Hid.mk (HDN.out _ H5.out.1); clear HND HDN)
            | (go_at_call 12; refine HDN5.out.mono ?_; rintro e w6 ⟨rfl, hw6⟩; have hw6' := hw6.symm; clear hw6; subst hw6'; obtain ⟨a, ea, _, hca⟩ := (H4.out.1.next H5.out.2).2 (by omega); cases ea; have q4 := hca 0 (by omega); simp only [z0, List.getD_cons_zero] at q4; clear hca HDN5)
            | (go_at_call 25; refine (HWR.out _ H5.out.1).mono ?_; rintro e w7 ⟨a7, c7, rfl, H7⟩; clear HWR)
            | (go_at_call 15; refine (HSA.out _ _ _ H7.out).mono ?_; rintro e w8 ⟨rfl, H8⟩; clear HSA)
            | go_in)
          go_roundw
          case rel => exact ⟨k + 1, rfl, Hid.mk ⟨HKL.out, H8.out⟩⟩
          case measure => (have := HKL.out; simp [Go.RowKit.intOf]; omega)
        · have HLF : Hid (Calls Try.prog 13 #[ptV g] wr fun e W' => e = .returned (.int .i64 ((0 : Nat) : Nat)) ∧ W' = wr) := Hid.mk (by
            have h := HK.out
            rw [show k = N by omega] at h
            obtain ⟨G, A, h1, h2, h3, h4⟩ := h.2
            have := o_left h1
            rw [h2.nl, ch_cnt h4] at this
            exact this)
          have HB9 := Hid.mk HK.out.2.bel
          clear HK
          go_wp2_with (first
            | (go_at_call 13; refine HLF.out.mono ?_; rintro e w4 ⟨rfl, hw4⟩; have hw4' := hw4.symm; clear hw4; subst hw4'; clear HLF)
            | go_in)
          go_ret
          exact ⟨rfl, HB9.out⟩
end Go.Proofs.Ythmbhcmicebcpaa
