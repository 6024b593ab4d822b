/-
  walk.Find: its small functions; what a way is.
-/
import Derived.Test.YtbahbhaoimabdaaWkEq
import Derived.Test.YtbahbhaoimabdaaWkPaths
namespace Go.Proofs.Ytbahbhaoimabdaa
open Go Go.Proofs Go.RowKit Go.Shelf

theorem range_hit {n j : Nat} {f : Nat → Bool} (hj : j < n) (h : f j = true) (hb : ∀ i, i < j → f i = false) : (List.range n).find? f = some j := by
  rw [List.find?_range_eq_some]
  exact ⟨h, List.mem_range.2 hj, fun i hi => by simp [hb i hi]⟩
theorem range_none {n : Nat} {f : Nat → Bool} (hb : ∀ i, i < n → f i = false) : (List.range n).find? f = none := by
  rw [List.find?_range_eq_none]
  exact fun i hi => by simp [hb i hi]
theorem range_miss {n : Nat} {f : Nat → Bool} (h : (List.range n).find? f = none) (i : Nat) (hi : i < n) : f i = false := by
  rw [List.find?_range_eq_none] at h
  simpa using h i hi
/-- Does a slot in use bear that name? -/
def slotB (p : ByteArray) (e : EnV) : Bool := decide (e.ino ≠ 0) && decide (e.nm = p)
/-- The first slot of that name. -/
def slotN (x : NoV) (p : ByteArray) : Option Nat := (List.range x.sn).find? (fun j => slotB p (x.E j))
def namedS (x : NoV) (p : ByteArray) : Int := match slotN x p with | some j => (x.E j).ino | none => 0
/-- The place of a number, or the error. -/
def placeS (m : Nat) (Nd : Nat → NoV) (ino : Int) : Nat × Nat := if ino = 0 then (0, 10) else match firstN m Nd ino with | some t => (t, 0) | none => (0, 10)
theorem placeS_lt {m : Nat} {Nd : Nat → NoV} {ino : Int} (h : (placeS m Nd ino).2 = 0) : (placeS m Nd ino).1 < m := by
  unfold placeS at h ⊢
  split at h
  · cases h
  · rename_i h0
    rw [if_neg h0]
    cases ht : firstN m Nd ino with
    | none => rw [ht] at h; cases h
    | some t => exact (firstN_some ht).1
/-- The places on a way, the error last. -/
def wayW (m : Nat) (Nd : Nat → NoV) : Nat × Nat → List ByteArray → List (Nat × Nat)
  | st, [] => [st]
  | st, p :: r => if st.2 ≠ 0 then [st] else (st.1, 0) :: (if (Nd st.1).kind ≠ 2 then [(0, 12)] else wayW m Nd (placeS m Nd (namedS (Nd st.1) p)) r)
theorem wayW_ne (m : Nat) (Nd : Nat → NoV) (st : Nat × Nat) (P : List ByteArray) : wayW m Nd st P ≠ [] := by
  cases P with
  | nil => simp [wayW]
  | cons p r => unfold wayW; split <;> simp
theorem wayW_len (m : Nat) (Nd : Nat → NoV) (P : List ByteArray) : ∀ st, (wayW m Nd st P).length ≤ P.length + 1 := by
  induction P with
  | nil => intro st; simp [wayW]
  | cons p r ih =>
    intro st
    unfold wayW
    split
    · simp
    · split
      · simp
      · have := ih (placeS m Nd (namedS (Nd st.1) p))
        simp only [List.length_cons]
        omega
set_option maxRecDepth 100000 in
set_option maxHeartbeats 4000000 in
theorem placed_any (w : World) (b m c : Nat) (Nd : Nat → NoV) (hm : MAt w 3 b c (plcF m Nd m)) (ino : Int) (hwf : (Lit.int .i64 ino).wf = true) : Calls Try.prog 38 #[.map (some b), .int .i64 ino] w fun e w' => e = .returned (.tuple #[.int .i64 ((placeS m Nd ino).1 : Nat), .int .i64 ((placeS m Nd ino).2 : Nat)]) ∧ Below w.heap.size w w' := by
  have HLK := Hid.mk (hm.look2 keyed3 Try.underlying74 (zero_int w) (Maps.keyOf_int_mk Try.underlying3 hwf))
  rw [plc_first] at HLK
  unfold placeS
  cases hq : firstN m Nd ino with
  | none =>
    rw [hq] at HLK
    simp only [Option.map, Option.getD, Option.isSome] at HLK
    have e : (if ino = 0 then (0, 10) else (0, 10) : Nat × Nat) = (0, 10) := by split <;> rfl
    dsimp only
    rw [e]
    go_enter Try.func38, Try.ntmps38
    go_wp2_with (rw [HLK.out]; simp only [Result.andThen_ok])
    refine bodyPost_ret (results_tmp2 rfl _ _ _) rfl ?_
    exact ⟨rfl, Below.refl _ _⟩
  | some t =>
    rw [hq] at HLK
    simp only [Option.map, Option.getD, Option.isSome] at HLK
    by_cases h0 : ino = 0
    · rw [if_pos h0]
      subst h0
      go_enter Try.func38, Try.ntmps38
      go_wp2_with (rw [HLK.out]; simp only [Result.andThen_ok])
      refine bodyPost_ret (results_tmp2 rfl _ _ _) rfl ?_
      exact ⟨rfl, Below.refl _ _⟩
    · rw [if_neg h0]
      have h0b : (ino == 0) = false := by simpa using h0
      go_enter Try.func38, Try.ntmps38
      go_wp2_with (rw [HLK.out]; simp only [Result.andThen_ok])
      refine bodyPost_ret (results_tmp2 rfl _ _ _) rfl ?_
      exact ⟨rfl, Below.refl _ _⟩
set_option maxRecDepth 100000 in
set_option maxHeartbeats 4000000 in
theorem named_any (w : World) (x : NoV) (p : ByteArray) (hE : EnAt w x.so x.sn x.E) (hs : x.sn ≤ 9223372036854775807) : Calls Try.prog 39 #[x.val, .string p] w fun e w' => e = .returned (.int .i64 (namedS x p)) ∧ Below w.heap.size w w' := by
  obtain ⟨a0, a1, a2, a3, a4, n4, c4, P, so, sn, sc, E⟩ := x
  dsimp only at hE hs
  unfold NoV.val
  dsimp only
  have HE := Hid.mk hE
  have HS := Hid.mk hs
  have HR := Hid.mk (Below.refl w.heap.size w)
  clear hE hs
  go_enter Try.func39, Try.ntmps39
  go_upto_region 1 with fail
  obtain ⟨X, hX⟩ : ∃ X, X = w.alloc (.cells #[.int .i64 a0, .int .i64 a1, .int .i64 a2, .int .i64 a3, .slice a4 n4 c4, .slice so sn sc] 39) := ⟨_, rfl⟩
  have hB : Below w.heap.size w X := by rw [hX]; exact (Below.refl _ w).alloc (Nat.le_refl _) _
  have gX : X.heap[w.heap.size]? = some (.cells #[.int .i64 a0, .int .i64 a1, .int .i64 a2, .int .i64 a3, .slice a4 n4 c4, .slice so sn sc] 39 (0, 0)) := by rw [hX]; exact blk_new w _
  rw [← hX]
  have x5 := blk_cell gX 5
  simp at x5
  have HB := Hid.mk hB
  clear hX hB gX HR
  go_wp2
  clear x5
  go_loopw [10] (fun iv wr => ∃ j : Nat, j ≤ sn ∧ iv = .int .i64 (j : Int) ∧ Hid (Below w.heap.size w wr ∧ ∀ i, i < j → slotB p (E i) = false)) (fun iv _ => ((sn : Int) - Go.RowKit.intOf iv).toNat)
  case atStart => exact ⟨0, by omega, rfl, Hid.mk ⟨HB.out, fun i hi => absurd hi (Nat.not_lt_zero i)⟩⟩
  case round =>
    obtain ⟨j, hj, rfl, HK⟩ := hrel
    by_cases hlt : j < sn
    · obtain ⟨eb, eo, hso, -, hec⟩ := (HE.out.blw HK.out.1) (by omega)
      obtain ⟨y0, y1⟩ := hec j hlt
      have hj0 : (0 : Int) ≤ (j : Int) := by omega
      have hjs : (j : Int) < (sn : Int) := by omega
      have hjj : IntKind.i64.wrap ((j : Int) + 1) = (j : Int) + 1 := by have := HS.out; rw [IntKind.wrap_i64]; omega
      generalize he : E j = e at *
      obtain ⟨ei, en⟩ := e
      dsimp only at y0 y1
      rw [hso]
      clear hec
      go_upto_region 4 with fail
      obtain ⟨X1, hX1⟩ : ∃ X1, X1 = wr.alloc (.cells #[.int .i64 ei, .string en] 41) := ⟨_, rfl⟩
      have hB1 : Below w.heap.size w X1 := by rw [hX1]; exact HK.out.1.alloc HK.out.1.size _
      have gX1 : X1.heap[wr.heap.size]? = some (.cells #[.int .i64 ei, .string en] 41 (0, 0)) := by rw [hX1]; exact blk_new wr _
      rw [← hX1]
      have v0 := blk_cell gX1 0
      have v1 := blk_cell gX1 1
      simp at v0 v1
      have HB1 := Hid.mk hB1
      clear hX1 hB1 gX1 y0 y1
      generalize wr.heap.size = bx at *
      by_cases h0 : ei = 0
      · subst h0
        have hf : slotB p (E j) = false := by rw [he]; simp [slotB]
        go_wp2
        go_roundw
        case rel => exact ⟨j + 1, hlt, by push_cast; rfl, Hid.mk ⟨HB1.out, fun i hi => (Nat.lt_succ_iff_lt_or_eq.1 hi).elim (HK.out.2 i) (fun q => by rw [q]; exact hf)⟩⟩
        case measure => simp [Go.RowKit.intOf]; omega
      · have h0b : (ei == 0) = false := by simpa using h0
        have h0c : (ei != 0) = true := by simpa using h0
        have hse := str_eq en p
        by_cases hn : en = p
        · rw [decide_eq_true hn] at hse
          have hf : slotB p (E j) = true := by rw [he]; simp [slotB, h0, hn]
          have hfin : namedS ⟨a0, a1, a2, a3, a4, n4, c4, P, so, sn, sc, E⟩ p = ei := by
            unfold namedS slotN
            rw [range_hit hlt hf HK.out.2]
            dsimp only
            rw [he]
          have HFI := Hid.mk hfin
          clear hfin hf
          subst hn
          go_wp2
          refine bodyPost_ret (results_tmp rfl _ _ _) rfl ?_
          exact ⟨by rw [HFI.out]; rfl, HB1.out⟩
        · rw [decide_eq_false hn] at hse
          have hf : slotB p (E j) = false := by rw [he]; simp [slotB, hn]
          go_wp2
          go_roundw
          case rel => exact ⟨j + 1, hlt, by push_cast; rfl, Hid.mk ⟨HB1.out, fun i hi => (Nat.lt_succ_iff_lt_or_eq.1 hi).elim (HK.out.2 i) (fun q => by rw [q]; exact hf)⟩⟩
          case measure => simp [Go.RowKit.intOf]; omega
    · obtain rfl : j = sn := by omega
      have hfin : namedS ⟨a0, a1, a2, a3, a4, n4, c4, P, so, j, sc, E⟩ p = 0 := by
        unfold namedS slotN
        rw [range_none HK.out.2]
      have HFI := Hid.mk hfin
      clear hfin
      go_wp2
      refine bodyPost_ret (results_tmp rfl _ _ _) rfl ?_
      exact ⟨by rw [HFI.out]; rfl, HK.out.1⟩
end Go.Proofs.Ytbahbhaoimabdaa
