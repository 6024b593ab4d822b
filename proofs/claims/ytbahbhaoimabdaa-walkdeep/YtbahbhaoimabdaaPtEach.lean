/-
  What the iterator over a path's parts hands over, for every loop body.
-/
import Derived.Test.YtbahbhaoimabdaaPtSmall
namespace Go.Proofs.Ytbahbhaoimabdaa
open Go Go.Proofs Go.RowKit Go.Shelf
attribute [local go_sem] Oper.semAt_some

/-- Part q of what stands behind the first slash. -/
def pcA (r : List UInt8) (q : Nat) : List UInt8 := (partsL r).getD q []
def pcV (r : List UInt8) (q : Nat) : Array Value := #[strV (pcA r q)]
theorem pcA_short (r : List UInt8) (q : Nat) : (pcA r q).length ≤ r.length := by
  unfold pcA
  rcases Nat.lt_or_ge q (partsL r).length with h | h
  · rw [show (partsL r).getD q [] = (partsL r)[q] by simp [List.getD, List.getElem?_eq_getElem h]]
    exact parts_short (List.getElem_mem h)
  · rw [show (partsL r).getD q [] = [] by simp [List.getD, List.getElem?_eq_none h]]
    simp
theorem prange'_snoc (f k : Nat) : List.range' f k ++ [f + k] = List.range' f (k + 1) := by
  rw [List.range'_concat]; simp
/-- How many are to come. -/
def leftN : Value → Value → Nat
  | .string s, .bool true => (pieces (ofS s)).length
  | _, _ => 0
/-- What is to come: nothing, or the pieces of x. -/
def toCome (m : Bool) (x : List UInt8) : List (List UInt8) := if m = true then pieces x else []
theorem toCome_step (x : List UInt8) : toCome true x = cutA x :: toCome (decide ((47 : UInt8) ∈ x)) (cutB x) := by
  unfold toCome
  rw [if_pos rfl, pieces_step]
  simp
theorem left_come (m : Bool) (x : List UInt8) : leftN (.string (mkS x)) (.bool m) = (toCome m x).length := by
  cases m with
  | true => simp [leftN, toCome, of_mk]
  | false => simp [leftN, toCome]

set_option maxRecDepth 100000 in
set_option maxHeartbeats 4000000 in
theorem parts_stops (n : Nat) (hn : 1 ≤ n) (B : Nat) (r : List UInt8) (hr : r.length ≤ 16777216) (w : World)
    (hB : w.heap[B]? = some (.cells #[strV (47 :: r)] 9 (0, 0))) :
    SeqStopsK Fence.wide n Try.prog 52 #[.pointer (some ⟨B, 0, none⟩)] (pcV r) (fun _ _ => True) (fun ys => ys = List.range' 0 (partsL r).length) (fun pre => ∃ k, k < (partsL r).length ∧ pre = List.range' 0 (k + 1)) (partsL r).length w := fun lp J Jx W hW hJ hJx hY h0 => by
  have HJ := Hid.mk hJ
  have HY := Hid.mk hY
  have e3 : W.cell? ⟨B, 0, none⟩ = some (.string (mkS (47 :: r))) := by
    rw [hW.cell (p := ⟨B, 0, none⟩) (lt_of_block hB), blk_cell hB]; rfl
  have hsz : (mkS (47 :: r)).size = r.length + 1 := by rw [mkS_size]; rfl
  have hex : (mkS (47 :: r)).extract 1 (r.length + 1) = mkS r := by
    rw [mkS_extract]
    congr 1
    simp
  have hem : ((mkS r).toList.isEmpty) = decide (r = []) := by
    rw [ByteArray.toList_eq]
    cases r <;> simp [mkS]
  have HP : Hid (partsL r = toCome (!decide (r = [])) r) := Hid.mk (by unfold partsL toCome; by_cases h : r = [] <;> simp [h])
  clear hJ hY hJx hW hB
  refine callsIn_of_wp Try.func52 rfl trivial ?_ rfl
  simp only [Try.ntmps52, List.size_toArray, List.length_cons, List.length_nil, Nat.reduceAdd, Nat.reduceSub, Array.replicate_succ, Array.replicate_zero, List.push_toArray, List.append_toArray, List.nil_append, List.cons_append]
  generalize mkS (47 :: r) = s at *
  have hs1 : (1 : Int) ≤ s.size := by omega
  gi_wp2
  gi_loopw [3, 4] (fun x m wr => ∃ (k : Nat) (l : List UInt8) (b : Bool), x = .string (mkS l) ∧ m = .bool b ∧ Hid (k ≤ (partsL r).length ∧ (partsL r).drop k = toCome b l ∧ l.length ≤ 16777216 ∧ J (List.range' 0 k) wr)) (fun x m _ => leftN x m)
  case atStart =>
    refine ⟨0, r, _, ?_, rfl, Hid.mk ⟨Nat.zero_le _, ?_, hr, h0⟩⟩
    · rfl
    · rw [HP.out]; rfl
  case round =>
    obtain ⟨k, l, b, rfl, rfl, HK⟩ := hrel
    clear h0 hem HP e3 hsz hex hs1
    cases b with
    | true =>
      obtain ⟨hk, hd, hl, hJk⟩ := HK.out
      rw [toCome_step] at hd
      have hlt : k < (partsL r).length := by
        rcases Nat.lt_or_ge k (partsL r).length with h | h
        · exact h
        · rw [List.drop_eq_nil_of_le h] at hd
          cases hd
      have hpk : pcA r k = cutA l := by
        unfold pcA
        have : (partsL r)[k]? = some (cutA l) := by
          rw [← List.head?_drop, hd]; rfl
        simp [List.getD, this]
      have hd2 : (partsL r).drop (k + 1) = toCome (decide ((47 : UInt8) ∈ l)) (cutB l) := by
        rw [← List.tail_drop, hd]; rfl
      have HCUT : Hid (∀ W1, CallsIn Fence.wide (n - 1) Try.prog 53 #[.string (mkS l), .string ⟨#[47]⟩] W1 fun e w' => e = .returned (.tuple #[.string (mkS (cutA l)), .string (mkS (cutB l)), .bool (decide ((47 : UInt8) ∈ l))]) ∧ Below W1.heap.size W1 w') := Hid.mk (fun W1 => callsIn_wide.2 (by
        have := cut_any W1 (mkS l) (by rw [mkS_size]; exact hl)
        rw [of_mk] at this
        exact this))
      have HYK : Hid (∀ W4 : World, Below wr.heap.size wr W4 → YieldAt Fence.wide (n - 1) Try.prog lp #[.string (mkS (cutA l))] W4 fun e W' => ∃ c : Bool, e = .returned (.bool c) ∧ Hid ((c = true ∧ J (List.range' 0 (k + 1)) W') ∨ (c = false ∧ Jx (List.range' 0 (k + 1)) W'))) := Hid.mk (fun W4 h4 => by
        have h1 := HY.out (List.range' 0 k) k W4 (HJ.out _ _ _ none hJk ⟨h4.os, h4.tape, h4.output, h4.size, fun j hj _ => h4.block j hj⟩ (by simp)) (by simp; exact hlt)
        have e := prange'_snoc 0 k
        rw [Nat.zero_add] at e
        rw [e] at h1
        unfold pcV at h1
        rw [hpk] at h1
        refine h1.mono (fun e W' h => h.elim (fun h => ⟨true, h.1, .inl ⟨rfl, h.2.1⟩⟩) (fun h => ⟨false, h.1, .inr ⟨rfl, h.2⟩⟩)))
      have HFIN : Hid (k + 1 ≤ (partsL r).length ∧ (partsL r).drop (k + 1) = toCome (decide ((47 : UInt8) ∈ l)) (cutB l) ∧ (cutB l).length ≤ 16777216) := Hid.mk ⟨hlt, hd2, by have := (cut_short l).2; omega⟩
      have HME : Hid (leftN (.string (mkS (cutB l))) (.bool (decide ((47 : UInt8) ∈ l))) < leftN (.string (mkS l)) (.bool true)) := Hid.mk (by
        rw [left_come, left_come, toCome_step]
        simp)
      clear hk hd hl hJk hlt hpk hd2 HK
      generalize hm : decide ((47 : UInt8) ∈ l) = mb at *
      clear hm
      generalize cutA l = x at *
      generalize cutB l = y at *
      gi_wp2_with (first
        | (refine ⟨trivial, ?_⟩; gi_at_call 53; refine (HCUT.out _).mono ?_; rintro e W3 ⟨rfl, hB3⟩; obtain ⟨fn, tmps, assign, body, hy, hR⟩ := HYK.out W3 hB3; have HR := Hid.mk hR; clear hR hB3)
        | (refine HR.out.mono ?_; rintro e W4 ⟨c, rfl, HC⟩)
        | (refine ⟨trivial, ?_⟩; refine HR.out.mono ?_; rintro e W4 ⟨c, rfl, HC⟩))
      · have hc : c = false := by
          rename_i h
          simpa using h
        have hx : Jx (List.range' 0 (k + 1)) W4 := by simpa [Hid, hc] using HC
        refine bodyPost_ret (results_none rfl _ _ _) rfl ?_
        exact ⟨⟨_, rfl⟩, .inr ⟨_, ⟨k, HFIN.out.1, rfl⟩, hx⟩⟩
      · have hc : c = true := by
          rename_i h
          simpa using h
        have hj : J (List.range' 0 (k + 1)) W4 := by simpa [Hid, hc] using HC
        obtain ⟨h1, h2, h3⟩ := HFIN.out
        exact ⟨⟨k + 1, y, mb, rfl, rfl, Hid.mk ⟨h1, h2, h3, hj⟩⟩, HME.out⟩
    | false =>
      obtain ⟨hk, hd, hl, hJk⟩ := HK.out
      have hkN : k = (partsL r).length := by
        have := congrArg List.length hd
        simp [toCome] at this
        omega
      subst hkN
      have HJk := Hid.mk hJk
      clear hk hd hl hJk HK
      gi_wp2
      go_end0
      exact ⟨⟨_, rfl⟩, .inl ⟨_, rfl, HJk.out⟩⟩
end Go.Proofs.Ytbahbhaoimabdaa
