/-
  Rows of strings in memory.
-/
import Derived.Test.YtbahbhaoimabdaaPtSpec
import Derived.Test.YtbahbhaoimabdaaShelf
import Derived.RangeFuncNested
import Derived.RangeFuncBound
import Derived.RangeFuncCalls
import Derived.RangeFuncLeaves
import Derived.Shelf.Abstract
import Derived.Shelf.RegionOpen
import Derived.WalkKit
import Derived.OwnWalkIn
import Derived.TacticsInMore
import Derived.LoopNIn
import Derived.LoopIn
import Derived.Stop.RegionWithIn
namespace Go.Proofs.Ytbahbhaoimabdaa
open Go Go.Proofs Go.RowKit Go.Shelf

theorem info9 : (Try.prog.info? 9).map (fun i => (i.zero, i.size, i.bytes)) = some (some (.string ⟨#[]⟩), 1, 16) := by kernel_rfl
theorem info9p : ∃ i0, Try.prog.info? 9 = some i0 ∧ i0.zero = some (.string ⟨#[]⟩) ∧ i0.size = 1 ∧ i0.bytes = 16 := by
  obtain ⟨i0, hi, hz0, hz1, hz2⟩ := info_parts info9
  exact ⟨i0, hi, hz0, hz1, hz2⟩

def strV (p : List UInt8) : Value := .string (mkS p)
/-- Strings as cells. -/
def Sy (L : List (List UInt8)) : List Value := L.map strV
theorem Sy_length (L : List (List UInt8)) : (Sy L).length = L.length := by simp [Sy]
theorem Sy_get (L : List (List UInt8)) (k : Nat) (h : k < L.length) : (Sy L)[k]? = some (strV (L.getD k [])) := by
  simp [Sy, List.getD, List.getElem?_eq_getElem h]
theorem Sy_one (L : List (List UInt8)) : ∀ u ∈ Sy L, u.oneCell' = true := by
  intro u hu
  obtain ⟨p, _, rfl⟩ := List.mem_map.1 hu
  rfl

/-- A slice of strings as it lies in a world. -/
def SAt (W : World) (ao : Option Addr) (n : Nat) (L : List (List UInt8)) : Prop :=
  L.length = n ∧ (0 < n → ∃ a, ao = some a ∧ a.block < W.heap.size ∧ ∀ k, k < n → W.cell? (a.add k) = some (strV (L.getD k [])))
theorem SAt.only {S : Nat → Prop} {W W' : World} {ao : Option Addr} {n : Nat} {L : List (List UInt8)} (h : SAt W ao n L) (ho : Only S W W') (hS : ∀ a, ao = some a → a.block < W.heap.size → ¬ S a.block) : SAt W' ao n L := by
  refine ⟨h.1, fun hn => ?_⟩
  obtain ⟨a, e, hlt, hc⟩ := h.2 hn
  refine ⟨a, e, Nat.lt_of_lt_of_le hlt ho.size, fun i hi => ?_⟩
  have hb := ho.block _ hlt (hS a e hlt)
  rw [World.cell?_of_block (w := W) (by rw [add_block]; exact hb)]
  exact hc i hi
theorem SAt.below {W W' : World} {ao : Option Addr} {n : Nat} {L : List (List UInt8)} (h : SAt W ao n L) (hB : Below W.heap.size W W') : SAt W' ao n L := h.only (Only.of_new (fun _ => False) hB) (fun _ _ _ h => h)
theorem SAt.at {W : World} {ao : Option Addr} {n : Nat} {L : List (List UInt8)} (h : SAt W ao n L) (k : Nat) (hk : k < n) : ∃ a, ao = some a ∧ W.cell? (a.add k) = some (strV (L.getD k [])) := by
  obtain ⟨a, e, hlt, hc⟩ := h.2 (by omega)
  exact ⟨a, e, hc k hk⟩
theorem SAt.place {W : World} {ao : Option Addr} {n : Nat} {L : List (List UInt8)} (h : SAt W ao n L) (hn : 0 < n) : ∃ b o, ao = some ⟨b, o, none⟩ ∧ b < W.heap.size ∧ ∀ k, k < n → W.cell? ⟨b, o + k, none⟩ = some (strV (L.getD k [])) := by
  obtain ⟨a, e, hlt, hc⟩ := h.2 hn
  have h0 := hc 0 hn
  obtain ⟨b, o, sp⟩ := a
  cases sp with
  | some q =>
    rw [show (⟨b, o, some q⟩ : Addr).add 0 = ⟨b, o, some q⟩ from rfl] at h0
    unfold World.cell? at h0
    split at h0
    · simp at h0
    · cases h0
  | none =>
    refine ⟨b, o, e, hlt, fun k hk => ?_⟩
    have := hc k hk
    rwa [add_at] at this
theorem SAt.nil (W : World) (ao : Option Addr) : SAt W ao 0 [] := ⟨rfl, fun h => absurd h (Nat.lt_irrefl 0)⟩
theorem owns_SAt {w : World} {base : Nat} {v : Value} {n : Nat} {L : List (List UInt8)} (h : w.ownsRow base 9 1 v n (Sy L)) : ∃ ao c, v = .slice ao n c ∧ SAt w ao n L ∧ (∀ a, ao = some a → base ≤ a.block ∧ v.ownBlock = some a.block) ∧ n ≤ c ∧ c ≤ 9223372036854775807 := by
  obtain ⟨h1, h2⟩ := h
  rw [Sy_length] at h1
  have hl : L.length = n := by omega
  rcases h2 with ⟨rfl, rfl⟩ | ⟨g, cap, cur, rfl, hg, hh, hnc, hm, hsz, ht⟩
  · exact ⟨none, 0, rfl, ⟨hl, fun h => by omega⟩, fun a e => (by cases e), Nat.le_refl _, by omega⟩
  · refine ⟨_, _, rfl, ⟨hl, fun _ => ⟨_, rfl, lt_of_block hh, fun k hk => ?_⟩⟩, fun a e => (by cases e; exact ⟨hg, rfl⟩), hnc, by unfold maxLen at hm; omega⟩
    have get : ∀ j, j < n → cur[j]? = (Sy L)[j]? := fun j hj => by
      rw [← Array.getElem?_toList, ← ht, List.getElem?_take, if_pos (by omega)]
    rw [add_at, blk_cell hh, Nat.zero_add, get _ hk]
    exact Sy_get L k (by omega)

/-- A new row of one string. -/
theorem exec_one9 {ev : Operand → Value} {oi : Oper} {x : Operand} {p : List UInt8} {W : World} (ho : oi.op = .buildSlice 31 1 #[(0, x)]) (hx : ev x = strV p) : (execOp ev oi).run Try.prog W = .ok (.value (.slice (some ⟨W.heap.size, 0, none⟩) 1 1)) (W.alloc (.cells #[strV p] 9)) := by
  obtain ⟨i0, hi, hz0, hz1, hz2⟩ := info9p
  unfold execOp
  rw [ho]
  simp only [hx, List.map_toArray, List.map_cons, List.map_nil]
  simp [Instr.buildSlice, run_underlying Try.underlying31, zeroValue, typeInfo, hi, hz0, hz1, newRow, strV, Value.cells, Instr.fill, sizeOf]
  rw [show Array.range 1 = #[0] from by decide]
  simp
/-- append(l, p). -/
theorem append9_run (W : World) (B : Nat) (v : Value) (n : Nat) (L : List (List UInt8)) (p : List UInt8) (hown : W.ownsRow B 9 1 v n (Sy L)) (hB : B ≤ W.heap.size) (hn : n ≤ 16777216) :
    ∃ v' W', (Builtin.append_ #[31, 31] 31 #[v, .slice (some ⟨W.heap.size, 0, none⟩) 1 1]).run Try.prog (W.alloc (.cells #[strV p] 9)) = .ok v' W' ∧ W'.ownsRow B 9 1 v' (n + 1) (Sy (L ++ [p])) ∧ Only (fun k => v.ownBlock = some k) W W' := by
  obtain ⟨i0, hi, hz0, hz1, hz2⟩ := info9p
  have hnew := blk_new W (.cells #[strV p] 9)
  obtain ⟨v3, W3, hr, hown3, hg3, _⟩ := run_append_own (P := Try.prog) (W.alloc (.cells #[strV p] 9)) B 31 31 9 i0 (.string ⟨#[]⟩) 1 16 Try.underlying31 hi hz0 hz1 hz2 rfl (by decide) v n (Sy L) (hown.alloc _) ⟨W.heap.size, 0, none⟩ 1 1 [strV p] rfl (fun j u hj => by
    match j, hj with
    | 0, hj => cases hj; rw [add_at, blk_cell hnew]; rfl) (fun u hu => by rw [List.mem_singleton.1 hu]; rfl) (by unfold maxLen; omega) (by omega) (by simp; omega)
  have e : Sy L ++ [strV p] = Sy (L ++ [p]) := by simp [Sy]
  rw [e] at hown3
  exact ⟨v3, W3, hr, hown3, ((Only.refl _ W).alloc _).grown hg3 (fun k e => .inl e)⟩
theorem keep_cells {W W' : World} {row : Option Nat} {b : Nat} {c : Array Value} {t : TypeId} {fr : Nat × Nat} (h : W.heap[b]? = some (.cells c t fr)) (hg : W.grownBy W' row) (hr : ∀ r, row = some r → ∃ o : Obj, W.heap[r]? = some o ∧ o.isCells = false) : W'.heap[b]? = some (.cells c t fr) := by
  rw [hg.block b (lt_of_block h) (fun e => ?_), h]
  obtain ⟨o, ho, hc⟩ := hr b e.symm
  rw [h] at ho
  cases ho
  cases hc
end Go.Proofs.Ytbahbhaoimabdaa
namespace Go.Proofs.Ytbahbhaoimabdaa
open Go Go.Proofs Go.RowKit Go.Shelf
theorem below_drewN (w : World) (n : Nat) : Below w.heap.size w (w.drewN n) := ⟨rfl, rfl, rfl, Nat.le_refl _, fun _ _ => rfl⟩
theorem below_drewN' (w : World) (n B : Nat) (h : B ≤ w.heap.size) : Below B w (w.drewN n) := (below_drewN w n).mono h
def slashS : ByteArray := ⟨#[47]⟩
theorem clone_any (w : World) (s : ByteArray) (hs : s.size ≤ 281474976710656) : Calls Try.prog 35 #[.string s] w fun e w' => e = .returned (.string s) ∧ Below w.heap.size w w' := by
  have HC := Hid.mk (fun W => stringslite_Clone s W hs)
  go_enter Try.func35, Try.ntmps35
  go_wp2_with (go_at_call 55; refine (HC.out _).mono ?_; rintro e w' ⟨rfl, hw⟩; have HW := Hid.mk hw; clear hw)
  go_ret
  exact ⟨rfl, HW.out⟩
theorem beq_dec (a b : List UInt8) : (a == b) = decide (a = b) := by by_cases h : a = b <;> simp [h]
theorem dec_str (s : ByteArray) (l : List UInt8) : decide (s = mkS l) = decide (ofS s = l) := by
  congr 1
  rw [eq_iff_iff]
  exact ⟨fun h => by rw [h, of_mk], fun h => by rw [← h, mk_of]⟩
set_option maxHeartbeats 1000000 in
theorem maybe_any (w : World) (p : List UInt8) (hs : p.length ≤ 1000) : Calls Try.prog 34 #[strV p] w fun e w' => e = .returned (.bool (mayB p)) ∧ w' = w := by
  have HN := Hid.mk (fun W => name_any W (mkS p) (by rw [mkS_size]; exact hs))
  have HM : Hid (mayB p = (nameB (nm (mkS p)) && (!decide (p = [46]) && !decide (p = [46, 46])))) := Hid.mk rfl
  have h1 : ((mkS p).toList == [46]) = decide (p = [46]) := by rw [ByteArray.toList_eq, beq_dec]; exact decide_eq_decide.2 (by simp [mkS])
  have h2 : ((mkS p).toList == [46, 46]) = decide (p = [46, 46]) := by rw [ByteArray.toList_eq, beq_dec]; exact decide_eq_decide.2 (by simp [mkS])
  unfold strV
  generalize mayB p = r at *
  generalize nameB (nm (mkS p)) = n at *
  generalize decide (p = [46]) = d1 at *
  generalize decide (p = [46, 46]) = d2 at *
  go_enter Try.func34, Try.ntmps34
  cases n <;> cases d1 <;> cases d2 <;>
  (go_wp2_with (go_at_call 54; refine (HN.out _).mono ?_; rintro e w' ⟨rfl, hw⟩; subst w')
   go_ret
   exact ⟨by rw [HM.out]; rfl, rfl⟩)
set_option maxHeartbeats 1000000 in
theorem index_any (w : World) (s : ByteArray) : Calls Try.prog 61 #[.string s, .string slashS] w fun e w' => e = .returned (.int .i64 (Lib.indexByte (ofS s) 47)) ∧ w' = w := by
  have HI := Hid.mk (fun W => idx33_any W s 47)
  rw [show ((47 : Int).toNat.toUInt8) = (47 : UInt8) from by decide] at HI
  have HE : Hid (s.data.toList = ofS s) := Hid.mk rfl
  have h1 : ([(47 : UInt8)] == s.toList) = decide (ofS s = [47]) := by rw [ByteArray.toList_eq, beq_dec]; exact decide_eq_decide.2 eq_comm
  unfold slashS
  by_cases h : ofS s = [47]
  · rw [decide_eq_true h] at h1
    have HR : Hid (Lib.indexByte (ofS s) 47 = 0) := Hid.mk (by rw [h]; rfl)
    clear h
    go_enter Try.func61, Try.ntmps61
    go_wp2
    go_ret
    exact ⟨by rw [HR.out]; rfl, rfl⟩
  · rw [decide_eq_false h] at h1
    clear h
    go_enter Try.func61, Try.ntmps61
    go_wp2_with (go_at_call 62; refine (HI.out _).mono ?_; rintro e w' ⟨rfl, hw⟩; subst w')
    go_ret
    exact ⟨rfl, rfl⟩
set_option maxHeartbeats 1000000 in
theorem cut28_any (w : World) (s : ByteArray) (hs : s.size ≤ 16777216) : Calls Try.prog 58 #[.string s, .string slashS] w fun e w' => e = .returned (.tuple #[strV (cutA (ofS s)), strV (cutB (ofS s)), .bool (decide ((47 : UInt8) ∈ ofS s))]) ∧ Below w.heap.size w w' := by
  have HI := Hid.mk (fun W => index_any W s)
  have HS := Hid.mk (ofS_length s)
  have HM := Hid.mk (mk_of s)
  rcases idx_cut (ofS s) with ⟨h1, h2⟩ | ⟨h1, i, h2, h3, h4, h5⟩
  · rw [h2] at HI
    obtain ⟨e1, e2⟩ := cut_no h1
    have HA : Hid (strV (cutA (ofS s)) = .string s) := Hid.mk (by rw [e1]; unfold strV; rw [mk_of])
    have HB : Hid (strV (cutB (ofS s)) = .string ⟨#[]⟩) := Hid.mk (by rw [e2]; rfl)
    have HD : Hid (decide ((47 : UInt8) ∈ ofS s) = false) := Hid.mk (decide_eq_false h1)
    clear h1 h2 e1 e2
    unfold slashS at *
    go_enter Try.func58, Try.ntmps58
    go_wp2_with (go_at_call 61; refine (HI.out _).mono ?_; rintro e w' ⟨rfl, hw⟩; subst w')
    go_ret3
    exact ⟨by rw [HA.out, HB.out, HD.out]; rfl, Below.refl _ _⟩
  · rw [h2] at HI
    have h6 : i < s.size := by rw [← HS.out]; exact h3
    have HA : Hid (s.extract 0 i = mkS (cutA (ofS s))) := Hid.mk (by rw [h4, ← HM.out, mkS_extract, of_mk]; simp)
    have HB : Hid (s.extract (i + 1) s.size = mkS (cutB (ofS s))) := Hid.mk (by
      have e := mkS_extract (ofS s) (i + 1) s.size
      rw [HM.out] at e
      rw [e, h5, List.take_of_length_le (by rw [HS.out]; exact Nat.le_refl _)])
    have HD : Hid (decide ((47 : UInt8) ∈ ofS s) = true) := Hid.mk (decide_eq_true h1)
    have hi1 : (i : Int) ≤ s.size := by omega
    have hi2 : (i : Int) + 1 ≤ s.size := by omega
    have hw1 : IntKind.i64.wrap ((i : Int) + 1) = (i : Int) + 1 := by rw [IntKind.wrap_i64]; omega
    have hi3 : ((i : Int) + 1).toNat = i + 1 := by omega
    clear h1 h2 h3 h4 h5
    unfold slashS at *
    go_enter Try.func58, Try.ntmps58
    go_wp2_with (go_at_call 61; refine (HI.out _).mono ?_; rintro e w' ⟨rfl, hw⟩; subst w')
    go_quiet (fail)
    go_wp2
    go_ret3
    refine ⟨?_, ?_⟩
    · rw [HD.out]
      unfold strV
      rw [← HA.out, ← HB.out]
      rfl
    · exact below_drewN _ _
theorem cut_any (w : World) (s : ByteArray) (hs : s.size ≤ 16777216) : Calls Try.prog 53 #[.string s, .string slashS] w fun e w' => e = .returned (.tuple #[strV (cutA (ofS s)), strV (cutB (ofS s)), .bool (decide ((47 : UInt8) ∈ ofS s))]) ∧ Below w.heap.size w w' := by
  have HC := Hid.mk (fun W => cut28_any W s hs)
  unfold slashS at *
  unfold strV at *
  generalize decide ((47 : UInt8) ∈ ofS s) = m at *
  generalize mkS (cutA (ofS s)) = x at *
  generalize mkS (cutB (ofS s)) = y at *
  go_enter Try.func53, Try.ntmps53
  go_wp2_with (go_at_call 58; refine (HC.out _).mono ?_; rintro e w' ⟨rfl, hw⟩; have HW := Hid.mk hw; clear hw)
  go_ret3
  exact ⟨rfl, HW.out⟩
theorem pparts_any (w : World) (s : ByteArray) :
    Calls Try.prog 33 #[.string s] w fun e w' => e = .returned (.func (.func 52) #[] #[.pointer (some ⟨w.heap.size, 0, none⟩)]) ∧ w' = w.alloc (.cells #[.string s] 9) := by
  go_enter Try.func33, Try.ntmps33
  go_wp2
  go_ret
  exact ⟨rfl, rfl⟩
end Go.Proofs.Ytbahbhaoimabdaa
namespace Go.Proofs.Ytbahbhaoimabdaa
open Go Go.Proofs Go.RowKit Go.Shelf
attribute [local go_sem] Oper.semAt_some

/-- Part q of what stands behind the first slash. -/
def pcA (r : List UInt8) (q : Nat) : List UInt8 := (partsL r).getD q []
def pcV (r : List UInt8) (q : Nat) : Array Value := #[strV (pcA r q)]
theorem pcA_short (r : List UInt8) (q : Nat) : (pcA r q).length ≤ r.length := by
  unfold pcA
  rcases Nat.lt_or_ge q (partsL r).length with h | h
  · rw [show (partsL r).getD q [] = (partsL r)[q] by simp [List.getD, List.getElem?_eq_getElem h]]
    exact parts_short (List.getElem_mem h)
  · rw [show (partsL r).getD q [] = [] by simp [List.getD, List.getElem?_eq_none h]]
    simp
theorem prange'_snoc (f k : Nat) : List.range' f k ++ [f + k] = List.range' f (k + 1) := by
  rw [List.range'_concat]; simp
/-- How many are to come. -/
def leftN : Value → Value → Nat
  | .string s, .bool true => (pieces (ofS s)).length
  | _, _ => 0
/-- What is to come: nothing, or the pieces of x. -/
def toCome (m : Bool) (x : List UInt8) : List (List UInt8) := if m = true then pieces x else []
theorem toCome_step (x : List UInt8) : toCome true x = cutA x :: toCome (decide ((47 : UInt8) ∈ x)) (cutB x) := by
  unfold toCome
  rw [if_pos rfl, pieces_step]
  simp
theorem left_come (m : Bool) (x : List UInt8) : leftN (.string (mkS x)) (.bool m) = (toCome m x).length := by
  cases m with
  | true => simp [leftN, toCome, of_mk]
  | false => simp [leftN, toCome]

set_option maxRecDepth 100000 in
set_option maxHeartbeats 4000000 in
theorem parts_stops (n : Nat) (hn : 1 ≤ n) (B : Nat) (r : List UInt8) (hr : r.length ≤ 16777216) (w : World)
    (hB : w.heap[B]? = some (.cells #[strV (47 :: r)] 9 (0, 0))) :
    SeqStopsK Fence.wide n Try.prog 52 #[.pointer (some ⟨B, 0, none⟩)] (pcV r) (fun _ _ => True) (fun ys => ys = List.range' 0 (partsL r).length) (fun pre => ∃ k, k < (partsL r).length ∧ pre = List.range' 0 (k + 1)) (partsL r).length w := fun lp J Jx W hW hJ hJx hY h0 => by
  have HJ := Hid.mk hJ
  have HY := Hid.mk hY
  have e3 : W.cell? ⟨B, 0, none⟩ = some (.string (mkS (47 :: r))) := by
    rw [hW.cell (p := ⟨B, 0, none⟩) (lt_of_block hB), blk_cell hB]; rfl
  have hsz : (mkS (47 :: r)).size = r.length + 1 := by rw [mkS_size]; rfl
  have hex : (mkS (47 :: r)).extract 1 (r.length + 1) = mkS r := by
    rw [mkS_extract]
    congr 1
    simp
  have hem : ((mkS r).toList.isEmpty) = decide (r = []) := by
    rw [ByteArray.toList_eq]
    cases r <;> simp [mkS]
  have HP : Hid (partsL r = toCome (!decide (r = [])) r) := Hid.mk (by unfold partsL toCome; by_cases h : r = [] <;> simp [h])
  clear hJ hY hJx hW hB
  refine callsIn_of_wp Try.func52 rfl trivial ?_ rfl
  simp only [Try.ntmps52, List.size_toArray, List.length_cons, List.length_nil, Nat.reduceAdd, Nat.reduceSub, Array.replicate_succ, Array.replicate_zero, List.push_toArray, List.append_toArray, List.nil_append, List.cons_append]
  generalize mkS (47 :: r) = s at *
  have hs1 : (1 : Int) ≤ s.size := by omega
  gi_wp2
  gi_loopw [3, 4] (fun x m wr => ∃ (k : Nat) (l : List UInt8) (b : Bool), x = .string (mkS l) ∧ m = .bool b ∧ Hid (k ≤ (partsL r).length ∧ (partsL r).drop k = toCome b l ∧ l.length ≤ 16777216 ∧ J (List.range' 0 k) wr)) (fun x m _ => leftN x m)
  case atStart =>
    refine ⟨0, r, _, ?_, rfl, Hid.mk ⟨Nat.zero_le _, ?_, hr, h0⟩⟩
    · rfl
    · rw [HP.out]; rfl
  case round =>
    obtain ⟨k, l, b, rfl, rfl, HK⟩ := hrel
    clear h0 hem HP e3 hsz hex hs1
    cases b with
    | true =>
      obtain ⟨hk, hd, hl, hJk⟩ := HK.out
      rw [toCome_step] at hd
      have hlt : k < (partsL r).length := by
        rcases Nat.lt_or_ge k (partsL r).length with h | h
        · exact h
        · rw [List.drop_eq_nil_of_le h] at hd
          cases hd
      have hpk : pcA r k = cutA l := by
        unfold pcA
        have : (partsL r)[k]? = some (cutA l) := by
          rw [← List.head?_drop, hd]; rfl
        simp [List.getD, this]
      have hd2 : (partsL r).drop (k + 1) = toCome (decide ((47 : UInt8) ∈ l)) (cutB l) := by
        rw [← List.tail_drop, hd]; rfl
      have HCUT : Hid (∀ W1, CallsIn Fence.wide (n - 1) Try.prog 53 #[.string (mkS l), .string ⟨#[47]⟩] W1 fun e w' => e = .returned (.tuple #[.string (mkS (cutA l)), .string (mkS (cutB l)), .bool (decide ((47 : UInt8) ∈ l))]) ∧ Below W1.heap.size W1 w') := Hid.mk (fun W1 => callsIn_wide.2 (by
        have := cut_any W1 (mkS l) (by rw [mkS_size]; exact hl)
        rw [of_mk] at this
        exact this))
      have HYK : Hid (∀ W4 : World, Below wr.heap.size wr W4 → YieldAt Fence.wide (n - 1) Try.prog lp #[.string (mkS (cutA l))] W4 fun e W' => ∃ c : Bool, e = .returned (.bool c) ∧ Hid ((c = true ∧ J (List.range' 0 (k + 1)) W') ∨ (c = false ∧ Jx (List.range' 0 (k + 1)) W'))) := Hid.mk (fun W4 h4 => by
        have h1 := HY.out (List.range' 0 k) k W4 (HJ.out _ _ _ none hJk ⟨h4.os, h4.tape, h4.output, h4.size, fun j hj _ => h4.block j hj⟩ (by simp)) (by simp; exact hlt)
        have e := prange'_snoc 0 k
        rw [Nat.zero_add] at e
        rw [e] at h1
        unfold pcV at h1
        rw [hpk] at h1
        refine h1.mono (fun e W' h => h.elim (fun h => ⟨true, h.1, .inl ⟨rfl, h.2.1⟩⟩) (fun h => ⟨false, h.1, .inr ⟨rfl, h.2⟩⟩)))
      have HFIN : Hid (k + 1 ≤ (partsL r).length ∧ (partsL r).drop (k + 1) = toCome (decide ((47 : UInt8) ∈ l)) (cutB l) ∧ (cutB l).length ≤ 16777216) := Hid.mk ⟨hlt, hd2, by have := (cut_short l).2; omega⟩
      have HME : Hid (leftN (.string (mkS (cutB l))) (.bool (decide ((47 : UInt8) ∈ l))) < leftN (.string (mkS l)) (.bool true)) := Hid.mk (by
        rw [left_come, left_come, toCome_step]
        simp)
      clear hk hd hl hJk hlt hpk hd2 HK
      generalize hm : decide ((47 : UInt8) ∈ l) = mb at *
      clear hm
      generalize cutA l = x at *
      generalize cutB l = y at *
      gi_wp2_with (first
        | (refine ⟨trivial, ?_⟩; gi_at_call 53; refine (HCUT.out _).mono ?_; rintro e W3 ⟨rfl, hB3⟩; obtain ⟨fn, tmps, assign, body, hy, hR⟩ := HYK.out W3 hB3; have HR := Hid.mk hR; clear hR hB3)
        | (refine HR.out.mono ?_; rintro e W4 ⟨c, rfl, HC⟩)
        | (refine ⟨trivial, ?_⟩; refine HR.out.mono ?_; rintro e W4 ⟨c, rfl, HC⟩))
      · have hc : c = false := by
          rename_i h
          simpa using h
        have hx : Jx (List.range' 0 (k + 1)) W4 := by simpa [Hid, hc] using HC
        refine bodyPost_ret (results_none rfl _ _ _) rfl ?_
        exact ⟨⟨_, rfl⟩, .inr ⟨_, ⟨k, HFIN.out.1, rfl⟩, hx⟩⟩
      · have hc : c = true := by
          rename_i h
          simpa using h
        have hj : J (List.range' 0 (k + 1)) W4 := by simpa [Hid, hc] using HC
        obtain ⟨h1, h2, h3⟩ := HFIN.out
        exact ⟨⟨k + 1, y, mb, rfl, rfl, Hid.mk ⟨h1, h2, h3, hj⟩⟩, HME.out⟩
    | false =>
      obtain ⟨hk, hd, hl, hJk⟩ := HK.out
      have hkN : k = (partsL r).length := by
        have := congrArg List.length hd
        simp [toCome] at this
        omega
      subst hkN
      have HJk := Hid.mk hJk
      clear hk hd hl hJk HK
      gi_wp2
      go_end0
      exact ⟨⟨_, rfl⟩, .inl ⟨_, rfl, HJk.out⟩⟩
end Go.Proofs.Ytbahbhaoimabdaa
namespace Go.Proofs.Ytbahbhaoimabdaa
open Go Go.Proofs Go.RowKit Go.Shelf
attribute [local go_sem] Oper.semAt_some

section
variable {F : Fence} {n : Nat} {w : World} {ops : Array Oper} {rest : List Oper} {o : Oper} {a : Act} {Q : Exit → Act → World → Prop}
theorem wpLIn_known (hp : ∀ c, o.op ≠ .defer c) (ha : o.about Try.prog w a.eval = none) (hw : Region.wanted o (yielded ops a.tmps) = true) (v : Value) (w' : World) (hrun : (execOp a.eval o).run Try.prog w = .ok (.value v) w') (h : wpListIn F n Try.prog ops Q rest (a.put o.dst v) w') : wpListIn F n Try.prog ops Q (o :: rest) a w := by
  refine BigFrame.wpListIn_want hw fun K hK => ?_
  unfold Oper.wpIn
  refine ⟨fun f hf => (by rw [ha] at hf; cases hf), ?_⟩
  rw [Oper.semAt_plain F _ _ hp, hrun, Oper.uponIn_value]
  exact hK _ _ h
theorem wpLIn_one (x : Operand) (ho : o.op = .buildSlice 31 1 #[(0, x)]) (hw : Region.wanted o (yielded ops a.tmps) = true) (p : List UInt8) (q : Nat) (W1 : World) (hq : q = w.heap.size) (hW : W1 = w.alloc (.cells #[strV p] 9)) (hx : a.eval x = strV p) (h : wpListIn F n Try.prog ops Q rest (a.put o.dst (.slice (some ⟨q, 0, none⟩) 1 1)) W1) : wpListIn F n Try.prog ops Q (o :: rest) a w := by
  subst hq hW
  exact wpLIn_known (by rw [ho]; intro c hc; cases hc) (by simp [Oper.about, ho]) hw _ _ (exec_one9 ho hx) h
theorem wpLIn_append (hgd : o.guard = none) (s x : Operand) (t : TypeId) (ho : o.op = .call { callee := .builtin .append, args := #[s, x], argTypes := #[t, t] }) (v vx v' : Value) (w' : World) (hs : a.eval s = v) (hx : a.eval x = vx)
    (hrun : (Builtin.append_ #[t, t] o.type #[v, vx]).run Try.prog w = .ok v' w') (h : wpListIn F n Try.prog ops Q rest (a.put o.dst v') w') : wpListIn F n Try.prog ops Q (o :: rest) a w := by
  refine wpListIn_plain hgd fun K hK => ?_
  unfold Oper.wpIn
  refine ⟨?_, ?_⟩
  · simp [Oper.about, ho, resolve, Target.leads, Sem.run_pure]
  · rw [Oper.semAt_plain F _ _ (by rw [ho]; intro c hc; cases hc)]
    simp [execOp, ho, resolve, invoke, builtin, hs, hx, hrun, Result.andThen]
    exact hK _ _ h
end

/-- What Split answers. -/
def splE (o : Option (List (List UInt8))) : Int := match o with | none => 15 | some _ => 0
def splL (o : Option (List (List UInt8))) : List (List UInt8) := o.getD []

/-- Between two rounds. -/
structure PI (r : List UInt8) (w : World) (pre : List Nat) (W : World) : Prop where
  all : ∀ q ∈ pre, mayB (pcA r q) = true
  r0 : W.heap[w.heap.size]? = some (.cells #[.slice none 0 0] 31 (0, 0))
  r1 : W.heap[w.heap.size + 1]? = some (.cells #[.int .i64 0] 25 (0, 0))
  out : ∃ v, W.heap[w.heap.size + 2]? = some (.cells #[v] 31 (0, 0)) ∧ W.ownsRow (w.heap.size + 4) 9 1 v pre.length (Sy (pre.map (pcA r)))
  below : Below w.heap.size w W
  size : w.heap.size + 4 ≤ W.heap.size
/-- A round has found one that may not be. -/
structure PX (r : List UInt8) (w : World) (c : Code) (pre : List Nat) (W : World) : Prop where
  ret : c = .ret
  bad : ∃ q ∈ pre, mayB (pcA r q) = false
  r0 : W.heap[w.heap.size]? = some (.cells #[.slice none 0 0] 31 (0, 0))
  r1 : W.heap[w.heap.size + 1]? = some (.cells #[.int .i64 15] 25 (0, 0))
  below : Below w.heap.size w W
  size : w.heap.size + 4 ≤ W.heap.size
theorem PI_own (r : List UInt8) (w : World) : OwnFrom (w.heap.size + 4) (PI r w) := by
  intro pre W W' row h hg hr
  obtain ⟨v, h1, h2⟩ := h.out
  refine ⟨h.all, keep_cells h.r0 hg (fun r e => (hr r e).2), keep_cells h.r1 hg (fun r e => (hr r e).2), ⟨v, keep_cells h1 hg (fun r e => (hr r e).2), owns_at h2 (fun j e => ?_)⟩, h.below.grown hg h.below.size (fun k e => by have := (hr k e).1; omega), Nat.le_trans h.size hg.size⟩
  obtain ⟨c, t, fr, hc⟩ := owns_isC h2 j e
  rw [keep_cells hc hg (fun r e => (hr r e).2), hc]
theorem PX_own (r : List UInt8) (w : World) (c : Code) : OwnFrom (w.heap.size + 4) (PX r w c) := by
  intro pre W W' row h hg hr
  exact ⟨h.ret, h.bad, keep_cells h.r0 hg (fun r e => (hr r e).2), keep_cells h.r1 hg (fun r e => (hr r e).2), h.below.grown hg h.below.size (fun k e => by have := (hr k e).1; omega), Nat.le_trans h.size hg.size⟩

theorem parts_range (r : List UInt8) : (List.range' 0 (partsL r).length).map (pcA r) = partsL r := by
  apply List.ext_getElem?
  intro i
  rw [List.getElem?_map]
  rcases Nat.lt_or_ge i (partsL r).length with h | h
  · rw [List.getElem?_range' h]
    simp [pcA, List.getD, List.getElem?_eq_getElem h]
  · rw [List.getElem?_eq_none h, List.getElem?_eq_none (by simpa using h)]
    rfl

set_option maxHeartbeats 1000000 in
theorem split_early (w : World) (s : ByteArray) (hs : s.size ≤ 16777216) (h : Lib.hasPrefix (ofS s) [47] = false ∨ 500 < s.size) : Calls Try.prog 22 #[.string s] w fun e w' => e = .returned (.tuple #[.slice none 0 0, .int .i64 15]) ∧ Below w.heap.size w w' := by
  have HP := Hid.mk (fun W => strings_HasPrefix s ⟨#[47]⟩ W)
  rw [show (ByteArray.mk #[47]).data.toList = [47] from rfl, show s.data.toList = ofS s from rfl] at HP
  have q0 := blk_new w (.cells #[.slice none 0 0] 31)
  have q1 := blk_new (w.alloc (.cells #[.slice none 0 0] 31)) (.cells #[.int .i64 15] 25)
  rw [World.size_alloc] at q1
  have c1 : ((w.alloc (.cells #[.slice none 0 0] 31)).alloc (.cells #[.int .i64 15] 25)).cell? ⟨w.heap.size, 0, none⟩ = some (.slice none 0 0) := by
    rw [blk_cell (by rw [Below.heap_alloc _ _ _ (by simp)]; exact q0)]; rfl
  have c2 : ((w.alloc (.cells #[.slice none 0 0] 31)).alloc (.cells #[.int .i64 15] 25)).cell? ⟨w.heap.size + 1, 0, none⟩ = some (.int .i64 15) := by
    rw [blk_cell q1]; rfl
  have HC := Hid.mk (And.intro c1 c2)
  have HB : Hid (Below w.heap.size w ((w.alloc (.cells #[.slice none 0 0] 31)).alloc (.cells #[.int .i64 15] 25))) := Hid.mk (((Below.refl _ w).alloc (Nat.le_refl _) _).alloc (by simp) _)
  clear q0 q1 c1 c2
  cases hp : Lib.hasPrefix (ofS s) [47] with
  | false =>
    rw [hp] at HP
    clear hp h
    go_enter Try.func22, Try.ntmps22
    go_wp2_with (go_at_call 32; refine (HP.out _).mono ?_; rintro e w' ⟨rfl, hw⟩; subst w')
    refine bodyPost_ret (v := .tuple #[.slice none 0 0, .int .i64 15]) ?_ rfl ⟨rfl, HB.out⟩
    obtain ⟨c1, c2⟩ := HC.out
    simp [results, Try.f22, go_sem, c1, c2]
  | true =>
    rw [hp] at HP h
    have h2 : 500 < s.size := by simpa using h
    clear hp h
    have h3 : (500 : Int) < s.size := by omega
    go_enter Try.func22, Try.ntmps22
    go_wp2_with (go_at_call 32; refine (HP.out _).mono ?_; rintro e w' ⟨rfl, hw⟩; subst w')
    refine bodyPost_ret (v := .tuple #[.slice none 0 0, .int .i64 15]) ?_ rfl ⟨rfl, HB.out⟩
    obtain ⟨c1, c2⟩ := HC.out
    simp [results, Try.f22, go_sem, c1, c2]
end Go.Proofs.Ytbahbhaoimabdaa
namespace Go.Proofs.Ytbahbhaoimabdaa
open Go Go.Proofs Go.RowKit Go.Shelf

section
variable {F : Fence} {n : Nat} {P : Program} {w : World} {ops : Array Oper} {oi : Oper} {t : Array Value} {Q : Exit → Act → World → Prop} {K : Act → World → Prop}
theorem opIn_run (i d : Nat) (v : Value) (w' : World) (hi : ops[i]? = some oi) (hd : oi.dst = some d) (hw : Region.wanted oi (yielded ops t) = true) (hp : ∀ c, oi.op ≠ .defer c) (ha : oi.about P w (Act.eval { tmps := t, defers := [] }) = none)
    (hrun : (execOp (Act.eval { tmps := t, defers := [] }) oi).run P w = .ok (.value v) w') (h : K { tmps := t.setIfInBounds d v, defers := [] } w') : wpOpIn F n P ops Q i K { tmps := t, defers := [] } w := by
  refine wpOpIn_step hi (fun K' hK => ?_)
  rw [if_pos hw]
  unfold Oper.wpIn
  refine ⟨fun f hf => (by rw [ha] at hf; cases hf), ?_⟩
  rw [Oper.semAt_plain F _ _ hp, hrun, Oper.uponIn_value]
  refine hK _ _ ?_
  rw [show (Act.put { tmps := t, defers := [] } oi.dst v) = { tmps := t.setIfInBounds d v, defers := [] } from by simp [Act.put, hd]]
  exact h
theorem opIn_store (i : Nat) (w' : World) (hi : ops[i]? = some oi) (hd : oi.dst = none) (hw : Region.wanted oi (yielded ops t) = true) (hp : ∀ c, oi.op ≠ .defer c) (ha : oi.about P w (Act.eval { tmps := t, defers := [] }) = none)
    (hrun : (execOp (Act.eval { tmps := t, defers := [] }) oi).run P w = .ok .skip w') (h : K { tmps := t, defers := [] } w') : wpOpIn F n P ops Q i K { tmps := t, defers := [] } w := by
  refine wpOpIn_step hi (fun K' hK => ?_)
  rw [if_pos hw]
  unfold Oper.wpIn
  refine ⟨fun f hf => (by rw [ha] at hf; cases hf), ?_⟩
  rw [Oper.semAt_plain F _ _ hp, hrun, Oper.uponIn_skip]
  refine hK _ _ ?_
  rw [show (Act.put { tmps := t, defers := [] } oi.dst undef) = { tmps := t, defers := [] } from by simp [Act.put, hd]]
  exact h
theorem opIn_call (hn : 1 ≤ n) (i d : Nat) (hi : ops[i]? = some oi) (hd : oi.dst = some d) (hw : Region.wanted oi (yielded ops t) = true)
    (f : Nat) (xs : Array Operand) (tys : Array TypeId) (hop : oi.op = Op.call { callee := .value (.func f), args := xs, argTypes := tys }) (hF : F.fn f)
    (eg : ∀ vs w, (callFunc f vs).run P w = .ok (.enter f vs) w) (vs : Array Value) (hvs : xs.map (Act.eval { tmps := t, defers := [] }) = vs)
    {R : Ending → World → Prop} (hc : CallsIn F (n - 1) P f vs w R)
    (h : ∀ e w', R e w' → ∃ u, e = .returned u ∧ K { tmps := t.setIfInBounds d u, defers := [] } w') : wpOpIn F n P ops Q i K { tmps := t, defers := [] } w := by
  refine wpOpIn_step hi (fun K' hK => ?_)
  rw [if_pos hw]
  unfold Oper.wpIn
  have hsem : (execOp (Act.eval { tmps := t, defers := [] }) oi).run P w = .ok (.enter f vs) w := by
    simp [execOp, hop, resolve, invoke, go_sem, hvs, eg]
  refine ⟨fun g hg => ?_, ?_⟩
  · have : g = f := by
      simp [Oper.about, hop, resolve, go_sem, Target.leads] at hg
      exact hg.symm
    rw [this]; exact hF
  · rw [Oper.semAt_plain F _ _ (by rw [hop]; intro c hc; cases hc), hsem, Oper.uponIn_enter]
    refine ⟨fun _ => hn, hc.mono ?_⟩
    intro e w' hR
    obtain ⟨u, rfl, hk⟩ := h e w' hR
    refine hK _ _ ?_
    rw [show (Act.put { tmps := t, defers := [] } oi.dst u) = { tmps := t.setIfInBounds d u, defers := [] } from by simp [Act.put, hd]]
    exact hk
end
theorem exec_load1 {ev : Operand → Value} {oi : Oper} {x : Operand} {a : Addr} {v : Value} {W : World} (ho : oi.op = .load 31 x) (hx : ev x = .pointer (some a)) (hc : W.cell? a = some v) : (execOp ev oi).run Try.prog W = .ok (.value v) W := by
  unfold execOp
  rw [ho]
  simp [go_sem, hx, hc]
theorem exec_move1 {P : Program} {ev : Operand → Value} {oi : Oper} {x : Operand} {v : Value} {W : World} (ho : oi.op = .move x) (hx : ev x = v) : (execOp ev oi).run P W = .ok (.value v) W := by
  unfold execOp
  rw [ho]
  simp [go_sem, hx]
theorem exec_append1 {P : Program} {ev : Operand → Value} {oi : Oper} {s x : Operand} {t u : TypeId} {v vx v' : Value} {w w' : World} (ho : oi.op = .call { callee := .builtin .append, args := #[s, x], argTypes := #[t, u] }) (hs : ev s = v) (hx : ev x = vx) (hrun : (Builtin.append_ #[t, u] oi.type #[v, vx]).run P w = .ok v' w') : (execOp ev oi).run P w = .ok (.value v') w' := by
  unfold execOp
  simp only [ho, resolve, invoke, builtin, Sem.run_bind, Sem.run_pure, Result.andThen_ok, List.map_toArray, List.map_cons, List.map_nil, hs, hx, hrun]
theorem exec_store1 {ev : Operand → Value} {oi : Oper} {p x : Operand} {a : Addr} {ao : Option Addr} {l c : Nat} {v : Value} {W : World} (ho : oi.op = .store 31 p x) (hp : ev p = .pointer (some a)) (hx : ev x = .slice ao l c) (hc : W.cell? a = some v) (hf : W.frozen? a = false) : (execOp ev oi).run Try.prog W = .ok .skip (W.setCell a (.slice ao l c)) := by
  refine exec_store ho hp hx ?_
  simp [go_sem, hc, hf]
theorem keeps_of_only {S : Nat → Prop} {W W' : World} (h : Only S W W') (hS : ∀ j, S j → IsC W j) : KeepsOthers W W' := by
  refine ⟨h.size, fun k o hk ho => ?_⟩
  rw [h.block k (Array.getElem?_eq_some_iff.1 hk).1 (fun hs => ?_), hk]
  obtain ⟨c, t, fr, hc⟩ := hS k hs
  rw [hk] at hc
  cases hc
  cases ho
/-- A round's end: one part more. -/
theorem PI.step {r : List UInt8} {w : World} {pre : List Nat} {x : Nat} {W W3 W4 : World} {v v' : Value} (hI : PI r w pre W) (hv : W.heap[w.heap.size + 2]? = some (.cells #[v] 31 (0, 0))) (hown : W.ownsRow (w.heap.size + 4) 9 1 v pre.length (Sy (pre.map (pcA r)))) (h3 : Below W.heap.size W W3) (ho : Only (fun k => v.ownBlock = some k) W3 W4)
    (hown4 : W4.ownsRow (w.heap.size + 4) 9 1 v' (pre.length + 1) (Sy (pre.map (pcA r) ++ [pcA r x]))) (hg : mayB (pcA r x) = true) :
    KeepsOthers W (W4.setCell ⟨w.heap.size + 2, 0, none⟩ v') ∧ PI r w (pre ++ [x]) (W4.setCell ⟨w.heap.size + 2, 0, none⟩ v') := by
  have hlo : ∀ j, v.ownBlock = some j → w.heap.size + 4 ≤ j := fun j e => (hown.lt j e).1
  have hO : Only (fun j => v.ownBlock = some j ∨ j = w.heap.size + 2) W (W4.setCell ⟨w.heap.size + 2, 0, none⟩ v') :=
    ((Only.of_new _ h3).trans ho (fun i e => .inl (.inl e))).setCell (.inl (.inr rfl)) _
  have hsz := hI.size
  have hW4 : ∀ j, j < w.heap.size + 4 → W4.heap[j]? = W.heap[j]? := fun j hj => by
    rw [ho.block j (by have := h3.size; omega) (fun e => by have := hlo j e; omega), h3.block j (by omega)]
  refine ⟨keeps_of_only hO (fun j e => ?_), ?_, ?_, ?_, ⟨v', ?_, ?_⟩, ?_, ?_⟩
  · rcases e with e | rfl
    · exact owns_isC hown _ e
    · exact ⟨_, _, _, hv⟩
  · intro q hq
    rcases List.mem_append.1 hq with hq | hq
    · exact hI.all q hq
    · rw [List.mem_singleton.1 hq]; exact hg
  · rw [Below.heap_setCell _ _ _ _ (by simp), hW4 _ (by omega)]; exact hI.r0
  · rw [Below.heap_setCell _ _ _ _ (by simp), hW4 _ (by omega)]; exact hI.r1
  · rw [blk_set ((hW4 _ (by omega)).trans hv)]
    simp
  · rw [List.length_append, List.map_append]
    refine owns_at hown4 (fun j e => ?_)
    have := (hown4.lt j e).1
    exact Below.heap_setCell _ _ _ _ (by show j ≠ w.heap.size + 2; omega)
  · exact hI.below.trans (hO.below (by omega) (fun j e => by rcases e with e | rfl; have := hlo j e; omega; omega))
  · exact Nat.le_trans hI.size hO.size
theorem about_call {P : Program} {w : World} {ev : Operand → Value} {oi : Oper} {xs : Array Operand} {ts : Array TypeId} (ho : oi.op = .call { callee := .builtin .append, args := xs, argTypes := ts }) : oi.about P w ev = none := by
  simp [Oper.about, ho, resolve, Target.leads, Sem.run_pure]
end Go.Proofs.Ytbahbhaoimabdaa
namespace Go.Proofs.Ytbahbhaoimabdaa
open Go Go.Proofs Go.RowKit Go.Shelf
attribute [local go_sem] Oper.semAt_some

set_option maxRecDepth 100000 in
set_option maxHeartbeats 4000000 in
theorem split_in (w : World) (r : List UInt8) (hr : r.length < 500) :
    Calls Try.prog 22 #[strV (47 :: r)] w fun e w' => ∃ v, e = .returned (.tuple #[v, .int .i64 (splE (splitL (47 :: r)))]) ∧ w'.ownsRow w.heap.size 9 1 v (splL (splitL (47 :: r))).length (Sy (splL (splitL (47 :: r)))) ∧ Below w.heap.size w w' := by
  have HP := Hid.mk (fun W => strings_HasPrefix (mkS (47 :: r)) ⟨#[47]⟩ W)
  rw [show Lib.hasPrefix (mkS (47 :: r)).data.toList (ByteArray.mk #[47]).data.toList = true from by simp [mkS, Lib.hasPrefix]] at HP
  have hsz : (mkS (47 :: r)).size = r.length + 1 := by rw [mkS_size]; rfl
  have hs500 : ¬ (500 : Int) < (mkS (47 :: r)).size := by omega
  have hs500' : ((mkS (47 :: r)).size : Int) ≤ 500 := by omega
  unfold strV
  have HV : Hid (Value.string (mkS (47 :: r)) = strV (47 :: r)) := Hid.mk rfl
  obtain ⟨s, hs⟩ : ∃ s, s = mkS (47 :: r) := ⟨_, rfl⟩
  rw [← hs] at HP hs500 hs500' HV ⊢
  clear hs hsz
  refine (callsIn_wide (n := 5)).1 ?_
  refine callsIn_of_wp_marks Try.func22 rfl trivial ?_ rfl
  simp only [Try.ntmps22, List.size_toArray, List.length_cons, List.length_nil, Nat.reduceAdd, Nat.reduceSub, Array.replicate_succ, Array.replicate_zero, List.push_toArray, List.append_toArray, List.nil_append, List.cons_append]
  gi_wp2_with (first
    | (refine ⟨trivial, ?_⟩; gi_at_call 32; refine (callsIn_wide.2 (HP.out _)).mono ?_; rintro e w' ⟨rfl, hw⟩; subst w')
    | (refine ⟨trivial, ?_⟩; gi_at_call 33; refine (callsIn_wide.2 (pparts_any _ _)).mono ?_; rintro e w' ⟨rfl, hw⟩; subst w'))
  try simp only [World.size_alloc]
  have q0 := blk_new w (.cells #[.slice none 0 0] 31)
  have q1 := blk_new (w.alloc (.cells #[.slice none 0 0] 31)) (.cells #[.int .i64 0] 25)
  have q2 := blk_new ((w.alloc (.cells #[.slice none 0 0] 31)).alloc (.cells #[.int .i64 0] 25)) (.cells #[.slice none 0 0] 31)
  have q3 := blk_new (((w.alloc (.cells #[.slice none 0 0] 31)).alloc (.cells #[.int .i64 0] 25)).alloc (.cells #[.slice none 0 0] 31)) (.cells #[.string s] 9)
  simp only [World.size_alloc] at q1 q2 q3
  obtain ⟨W0, hW0⟩ : ∃ W0, W0 = (((w.alloc (.cells #[.slice none 0 0] 31)).alloc (.cells #[.int .i64 0] 25)).alloc (.cells #[.slice none 0 0] 31)).alloc (.cells #[.string s] 9) := ⟨_, rfl⟩
  have z0 : W0.heap[w.heap.size]? = some (.cells #[.slice none 0 0] 31 (0, 0)) := by
    rw [hW0, Below.heap_alloc _ _ _ (by simp; omega), Below.heap_alloc _ _ _ (by simp; omega), Below.heap_alloc _ _ _ (by simp)]; exact q0
  have z1 : W0.heap[w.heap.size + 1]? = some (.cells #[.int .i64 0] 25 (0, 0)) := by
    rw [hW0, Below.heap_alloc _ _ _ (by simp [World.size_alloc] <;> omega), Below.heap_alloc _ _ _ (by simp)]; exact q1
  have z2 : W0.heap[w.heap.size + 1 + 1]? = some (.cells #[.slice none 0 0] 31 (0, 0)) := by
    rw [hW0, Below.heap_alloc _ _ _ (by simp)]; exact q2
  have z3 : W0.heap[w.heap.size + 1 + 1 + 1]? = some (.cells #[strV (47 :: r)] 9 (0, 0)) := by rw [hW0, ← HV.out]; exact q3
  have zs : W0.heap.size = w.heap.size + 4 := by rw [hW0]; simp
  have zb : Below w.heap.size w W0 := by
    rw [hW0]
    exact ((((Below.refl _ w).alloc (Nat.le_refl _) _).alloc (by simp) _).alloc (by simp; omega) _).alloc (by simp; omega) _
  rw [← hW0]
  clear q0 q1 q2 q3 hW0
  have hseq := parts_stops 4 (by omega) (w.heap.size + 1 + 1 + 1) r (by omega) W0 z3
  refine wpIn_rangeFunc_ownF rfl (by omega) (gf := 52) (lb := #[.pointer (some ⟨w.heap.size + 1 + 1 + 1, 0, none⟩)]) rfl trivial (enters_of Try.func52 (by kernel_rfl) rfl)
    hseq (fun _ _ => trivial) (fun _ _ _ _ _ _ _ _ => trivial) (Below.refl _ _) (fun _ => rfl)
    (PI r w) (PX r w) (by rw [zs]; exact PI_own r w) (by rw [zs]; exact PX_own r w) ?start
    (fun x => { tmps := #[.string s, undef, .pointer (some ⟨w.heap.size, 0, none⟩), .pointer (some ⟨w.heap.size + 1, 0, none⟩), .pointer (some ⟨w.heap.size + 1 + 1, 0, none⟩), strV (pcA r x), .string s, .bool true, .bool false, .bool false, .string s, .int .i64 (s.size : Nat), .bool (decide ((500 : Int) < (s.size : Nat))), .bool (decide ((500 : Int) < (s.size : Nat))), .string s,
      .func (.func 52) #[] #[.pointer (some ⟨w.heap.size + 1 + 1 + 1, 0, none⟩)], strV (pcA r x), undef, undef, undef, undef, undef, undef, undef, undef, undef], defers := [] }) ?assign ?body ?done ?stop
  case start => exact ⟨fun q hq => (by cases hq), z0, z1, ⟨_, z2, World.ownsRow_nil _ _ _ _⟩, zb, by omega⟩
  case assign =>
    intro l x W K hK
    dsimp only [pcV]
    gi_wp2
    exact hK
  case body =>
    rintro lp pre x W hI hlen
    obtain ⟨v, hv, hown⟩ := hI.out
    have c0 := blk_cell hI.r0 0
    have f0 := blk_free hI.r0 0
    have c1 := blk_cell hI.r1 0
    have f1 := blk_free hI.r1 0
    have c2 := blk_cell hv 0
    have f2 := blk_free hv 0
    simp at c0 c1 c2
    have HMB := Hid.mk (fun W1 => maybe_any W1 (pcA r x) (by have := pcA_short r x; omega))
    have HI := Hid.mk hI
    have HVV := Hid.mk hv
    have HOWN := Hid.mk hown
    have HXS := Hid.mk (pcA_short r x)
    have HLEN := Hid.mk hlen
    clear hI hv hown z0 z1 z2 z3 zb zs hseq hlen
    cases hg : mayB (pcA r x) with
    | false =>
      have HG := Hid.mk hg
      rw [hg] at HMB
      clear hg
      gi_wp2_with (refine ⟨trivial, ?_⟩; gi_at_call 34; refine (CallsIn.inRound lp (callsIn_wide.2 (HMB.out _))).mono ?_; rintro e w' ⟨rfl, hw⟩; subst w')
      obtain hI := HI.out
      refine ⟨(KeepsOthers.setCell _ _ _).trans (KeepsOthers.setCell _ _ _), rfl, ⟨x, by simp, HG.out⟩, ?_, ?_, (hI.below.setCell (p := ⟨w.heap.size, 0, none⟩) (Nat.le_refl _) _).setCell (p := ⟨w.heap.size + 1, 0, none⟩) (Nat.le_succ _) _, by simpa [World.setCell] using hI.size⟩
      · rw [Below.heap_setCell _ _ _ _ (by simp), blk_set hI.r0]
        simp
      · rw [blk_set (c := #[.int .i64 0]) (by rw [Below.heap_setCell _ _ _ _ (by simp)]; exact hI.r1)]
        simp
    | true =>
      have HG := Hid.mk hg
      rw [hg] at HMB
      clear hg
      have HCL : Hid (∀ W1, Calls Try.prog 35 #[strV (pcA r x)] W1 fun e w' => e = .returned (strV (pcA r x)) ∧ Below W1.heap.size W1 w') := Hid.mk (fun W1 => clone_any W1 (mkS (pcA r x)) (by rw [mkS_size]; have := pcA_short r x; omega))
      gi_wp2_with (refine ⟨trivial, ?_⟩; gi_at_call 34; refine (CallsIn.inRound lp (callsIn_wide.2 (HMB.out _))).mono ?_; rintro e w' ⟨rfl, hw⟩; subst w')
      clear HMB
      have mixed : Try.prog.follows Departure.mixedOrders = true := by kernel_rfl
      refine wpIn_region_any mixed ?_
      obtain ⟨p, hp⟩ : ∃ p, p = pcA r x := ⟨_, rfl⟩
      rw [← hp] at HCL ⊢
      have HPX := Hid.mk hp
      clear hp
      have HT : Hid (∀ W3, Below W.heap.size W W3 → W3.cell? ⟨w.heap.size + 1 + 1, 0, none⟩ = some v) := Hid.mk (fun W3 h => by
        rw [blk_cell ((h.block _ (lt_of_block HVV.out)).trans HVV.out)]; rfl)
      have FIN : Hid (∀ W3, Below W.heap.size W W3 → ∃ ao l4 c4 W4, (Builtin.append_ #[31, 31] 31 #[v, .slice (some ⟨W3.heap.size, 0, none⟩) 1 1]).run Try.prog (W3.alloc (.cells #[strV p] 9)) = .ok (.slice ao l4 c4) W4 ∧ W4.cell? ⟨w.heap.size + 1 + 1, 0, none⟩ = some v ∧ W4.frozen? ⟨w.heap.size + 1 + 1, 0, none⟩ = false ∧ KeepsOthers W (W4.setCell ⟨w.heap.size + 1 + 1, 0, none⟩ (.slice ao l4 c4)) ∧ PI r w (pre ++ [x]) (W4.setCell ⟨w.heap.size + 1 + 1, 0, none⟩ (.slice ao l4 c4))) := Hid.mk (fun W3 h3 => by
        have hown3 : W3.ownsRow (w.heap.size + 4) 9 1 v pre.length (Sy (pre.map (pcA r))) := owns_at HOWN.out (fun j e => h3.block j (HOWN.out.lt j e).2)
        obtain ⟨v', W4, hr4, ho4, hon4⟩ := append9_run W3 (w.heap.size + 4) v pre.length _ p hown3 (Nat.le_trans HI.out.size h3.size) (by have := HLEN.out; have := parts_count r; omega)
        rw [HPX.out] at ho4
        have hst := PI.step HI.out HVV.out HOWN.out h3 hon4 ho4 HG.out
        obtain ⟨ao, c4, rfl, -⟩ := owns_SAt ho4
        have hb4 : W4.heap[w.heap.size + 1 + 1]? = some (.cells #[v] 31 (0, 0)) := by
          rw [hon4.block _ (by have := h3.size; have := HI.out.size; omega) (fun e => by have := (HOWN.out.lt _ e).1; omega), h3.block _ (by have := HI.out.size; omega)]
          exact HVV.out
        refine ⟨ao, _, c4, W4, hr4, ?_, blk_free hb4 0, hst.1, hst.2⟩
        rw [blk_cell hb4]; rfl)
      refine wpAnyIn_all (rs := [0, 1]) (by kernel_rfl) (by simp) (fun i hi => ?_)
      obtain rfl | rfl : i = 0 ∨ i = 1 := by simpa using hi
      · refine opIn_run 0 20 v _ rfl rfl rfl (by intro c hc; cases hc) rfl (exec_load1 rfl rfl (HT.out _ ⟨rfl, rfl, rfl, Nat.le_refl _, fun _ _ => rfl⟩)) ?_
        simp only [List.setIfInBounds_toArray, List.set_cons_succ, List.set_cons_zero]
        refine wpAnyIn_all (rs := [1]) (by kernel_rfl) (by simp) (fun i hi => ?_)
        obtain rfl : i = 1 := by simpa using hi
        refine opIn_run 1 21 (strV p) _ rfl rfl rfl (by intro c hc; cases hc) rfl (exec_move1 rfl rfl) ?_
        simp only [List.setIfInBounds_toArray, List.set_cons_succ, List.set_cons_zero]
        refine wpAnyIn_all (rs := [2]) (by kernel_rfl) (by simp) (fun i hi => ?_)
        obtain rfl : i = 2 := by simpa using hi
        refine opIn_call (by omega) 2 22 rfl rfl rfl 35 _ _ rfl trivial (enters_of Try.func35 (by kernel_rfl) rfl) #[strV p] (by simp [Act.eval]) (CallsIn.inRound lp (callsIn_wide.2 (HCL.out _))) ?_
        rintro e W3 ⟨rfl, hB3⟩
        have HB3 : Below W.heap.size W W3 := ⟨hB3.os, hB3.tape, hB3.output, hB3.size, hB3.block⟩
        clear hB3
        refine ⟨_, rfl, ?_⟩
        simp only [List.setIfInBounds_toArray, List.set_cons_succ, List.set_cons_zero]
        refine wpAnyIn_all (rs := [3]) (by kernel_rfl) (by simp) (fun i hi => ?_)
        obtain rfl : i = 3 := by simpa using hi
        refine opIn_run 3 23 _ _ rfl rfl rfl (by intro c hc; cases hc) rfl (exec_one9 rfl rfl) ?_
        simp only [List.setIfInBounds_toArray, List.set_cons_succ, List.set_cons_zero]
        obtain ⟨ao, l4, c4, W4, hr4, hc4, hf4, hfin⟩ := FIN.out W3 HB3
        refine wpAnyIn_all (rs := [4]) (by kernel_rfl) (by simp) (fun i hi => ?_)
        obtain rfl : i = 4 := by simpa using hi
        refine opIn_run 4 24 (.slice ao l4 c4) W4 rfl rfl rfl (by intro c hc; cases hc) (about_call rfl) (exec_append1 rfl rfl rfl hr4) ?_
        simp only [List.setIfInBounds_toArray, List.set_cons_succ, List.set_cons_zero]
        refine wpAnyIn_all (rs := [5]) (by kernel_rfl) (by simp) (fun i hi => ?_)
        obtain rfl : i = 5 := by simpa using hi
        refine opIn_store 5 _ rfl rfl rfl (by intro c hc; cases hc) rfl (exec_store1 rfl rfl rfl hc4 hf4) ?_
        refine wpAnyIn_done (by kernel_rfl) ?_ _
        exact ⟨hfin.1, trivial, hfin.2⟩
      · refine opIn_run 1 21 (strV p) _ rfl rfl rfl (by intro c hc; cases hc) rfl (exec_move1 rfl rfl) ?_
        simp only [List.setIfInBounds_toArray, List.set_cons_succ, List.set_cons_zero]
        refine wpAnyIn_all (rs := [0, 2]) (by kernel_rfl) (by simp) (fun i hi => ?_)
        obtain rfl | rfl : i = 0 ∨ i = 2 := by simpa using hi
        · refine opIn_run 0 20 v _ rfl rfl rfl (by intro c hc; cases hc) rfl (exec_load1 rfl rfl (HT.out _ ⟨rfl, rfl, rfl, Nat.le_refl _, fun _ _ => rfl⟩)) ?_
          simp only [List.setIfInBounds_toArray, List.set_cons_succ, List.set_cons_zero]
          refine wpAnyIn_all (rs := [2]) (by kernel_rfl) (by simp) (fun i hi => ?_)
          obtain rfl : i = 2 := by simpa using hi
          refine opIn_call (by omega) 2 22 rfl rfl rfl 35 _ _ rfl trivial (enters_of Try.func35 (by kernel_rfl) rfl) #[strV p] (by simp [Act.eval]) (CallsIn.inRound lp (callsIn_wide.2 (HCL.out _))) ?_
          rintro e W3 ⟨rfl, hB3⟩
          have HB3 : Below W.heap.size W W3 := ⟨hB3.os, hB3.tape, hB3.output, hB3.size, hB3.block⟩
          clear hB3
          refine ⟨_, rfl, ?_⟩
          simp only [List.setIfInBounds_toArray, List.set_cons_succ, List.set_cons_zero]
          refine wpAnyIn_all (rs := [3]) (by kernel_rfl) (by simp) (fun i hi => ?_)
          obtain rfl : i = 3 := by simpa using hi
          refine opIn_run 3 23 _ _ rfl rfl rfl (by intro c hc; cases hc) rfl (exec_one9 rfl rfl) ?_
          simp only [List.setIfInBounds_toArray, List.set_cons_succ, List.set_cons_zero]
          obtain ⟨ao, l4, c4, W4, hr4, hc4, hf4, hfin⟩ := FIN.out W3 HB3
          refine wpAnyIn_all (rs := [4]) (by kernel_rfl) (by simp) (fun i hi => ?_)
          obtain rfl : i = 4 := by simpa using hi
          refine opIn_run 4 24 (.slice ao l4 c4) W4 rfl rfl rfl (by intro c hc; cases hc) (about_call rfl) (exec_append1 rfl rfl rfl hr4) ?_
          simp only [List.setIfInBounds_toArray, List.set_cons_succ, List.set_cons_zero]
          refine wpAnyIn_all (rs := [5]) (by kernel_rfl) (by simp) (fun i hi => ?_)
          obtain rfl : i = 5 := by simpa using hi
          refine opIn_store 5 _ rfl rfl rfl (by intro c hc; cases hc) rfl (exec_store1 rfl rfl rfl hc4 hf4) ?_
          refine wpAnyIn_done (by kernel_rfl) ?_ _
          exact ⟨hfin.1, trivial, hfin.2⟩
        · refine opIn_call (by omega) 2 22 rfl rfl rfl 35 _ _ rfl trivial (enters_of Try.func35 (by kernel_rfl) rfl) #[strV p] (by simp [Act.eval]) (CallsIn.inRound lp (callsIn_wide.2 (HCL.out _))) ?_
          rintro e W3 ⟨rfl, hB3⟩
          have HB3 : Below W.heap.size W W3 := ⟨hB3.os, hB3.tape, hB3.output, hB3.size, hB3.block⟩
          clear hB3
          refine ⟨_, rfl, ?_⟩
          simp only [List.setIfInBounds_toArray, List.set_cons_succ, List.set_cons_zero]
          refine wpAnyIn_all (rs := [0, 3]) (by kernel_rfl) (by simp) (fun i hi => ?_)
          obtain rfl | rfl : i = 0 ∨ i = 3 := by simpa using hi
          · refine opIn_run 0 20 v _ rfl rfl rfl (by intro c hc; cases hc) rfl (exec_load1 rfl rfl (HT.out _ HB3)) ?_
            simp only [List.setIfInBounds_toArray, List.set_cons_succ, List.set_cons_zero]
            refine wpAnyIn_all (rs := [3]) (by kernel_rfl) (by simp) (fun i hi => ?_)
            obtain rfl : i = 3 := by simpa using hi
            refine opIn_run 3 23 _ _ rfl rfl rfl (by intro c hc; cases hc) rfl (exec_one9 rfl rfl) ?_
            simp only [List.setIfInBounds_toArray, List.set_cons_succ, List.set_cons_zero]
            obtain ⟨ao, l4, c4, W4, hr4, hc4, hf4, hfin⟩ := FIN.out W3 HB3
            refine wpAnyIn_all (rs := [4]) (by kernel_rfl) (by simp) (fun i hi => ?_)
            obtain rfl : i = 4 := by simpa using hi
            refine opIn_run 4 24 (.slice ao l4 c4) W4 rfl rfl rfl (by intro c hc; cases hc) (about_call rfl) (exec_append1 rfl rfl rfl hr4) ?_
            simp only [List.setIfInBounds_toArray, List.set_cons_succ, List.set_cons_zero]
            refine wpAnyIn_all (rs := [5]) (by kernel_rfl) (by simp) (fun i hi => ?_)
            obtain rfl : i = 5 := by simpa using hi
            refine opIn_store 5 _ rfl rfl rfl (by intro c hc; cases hc) rfl (exec_store1 rfl rfl rfl hc4 hf4) ?_
            refine wpAnyIn_done (by kernel_rfl) ?_ _
            exact ⟨hfin.1, trivial, hfin.2⟩
          · refine opIn_run 3 23 _ _ rfl rfl rfl (by intro c hc; cases hc) rfl (exec_one9 rfl rfl) ?_
            simp only [List.setIfInBounds_toArray, List.set_cons_succ, List.set_cons_zero]
            refine wpAnyIn_all (rs := [0]) (by kernel_rfl) (by simp) (fun i hi => ?_)
            obtain rfl : i = 0 := by simpa using hi
            refine opIn_run 0 20 v _ rfl rfl rfl (by intro c hc; cases hc) rfl (exec_load1 rfl rfl (HT.out _ (HB3.trans ((Below.refl _ W3).alloc HB3.size _)))) ?_
            simp only [List.setIfInBounds_toArray, List.set_cons_succ, List.set_cons_zero]
            obtain ⟨ao, l4, c4, W4, hr4, hc4, hf4, hfin⟩ := FIN.out W3 HB3
            refine wpAnyIn_all (rs := [4]) (by kernel_rfl) (by simp) (fun i hi => ?_)
            obtain rfl : i = 4 := by simpa using hi
            refine opIn_run 4 24 (.slice ao l4 c4) W4 rfl rfl rfl (by intro c hc; cases hc) (about_call rfl) (exec_append1 rfl rfl rfl hr4) ?_
            simp only [List.setIfInBounds_toArray, List.set_cons_succ, List.set_cons_zero]
            refine wpAnyIn_all (rs := [5]) (by kernel_rfl) (by simp) (fun i hi => ?_)
            obtain rfl : i = 5 := by simpa using hi
            refine opIn_store 5 _ rfl rfl rfl (by intro c hc; cases hc) rfl (exec_store1 rfl rfl rfl hc4 hf4) ?_
            refine wpAnyIn_done (by kernel_rfl) ?_ _
            exact ⟨hfin.1, trivial, hfin.2⟩
  case done =>
    rintro D ys W hD rfl hI hK
    have hDw : w.heap.size ≤ D := by omega
    obtain ⟨v, hv, hown⟩ := hI.out
    have hall : (partsL r).all mayB = true := by
      rw [← parts_range r, List.all_map, List.all_eq_true]
      exact fun q hq => hI.all q hq
    have hsp : splitL (47 :: r) = some (partsL r) := by
      simp only [splitL]
      rw [if_pos ⟨trivial, hr, hall⟩]
    rw [parts_range, List.length_range'] at hown
    have HSP := Hid.mk hsp
    obtain ⟨ao, c, rfl, hS, hlo, -⟩ := owns_SAt hown
    have c0 := blk_cell hI.r0 0
    have f0 := blk_free hI.r0 0
    have c1 := blk_cell hI.r1 0
    have f1 := blk_free hI.r1 0
    have c2 := blk_cell hv 0
    simp at c0 c1 c2
    have HI := Hid.mk hI
    have HOWN := Hid.mk hown
    clear hI hv hown z0 z1 z2 z3 zb zs hseq hS hlo hsp hall
    gi_wp2
    have hI := HI.out
    obtain ⟨Y, hY⟩ : ∃ Y, Y = (W.setCell ⟨w.heap.size, 0, none⟩ (.slice ao (partsL r).length c)).setCell ⟨w.heap.size + 1, 0, none⟩ (.int .i64 0) := ⟨_, rfl⟩
    have k1 : Y.heap[w.heap.size]? = some (.cells #[.slice ao (partsL r).length c] 31 (0, 0)) := by
      rw [hY, Below.heap_setCell _ _ _ _ (by simp), blk_set hI.r0]
      simp
    have k2 : Y.heap[w.heap.size + 1]? = some (.cells #[.int .i64 0] 25 (0, 0)) := by
      rw [hY, blk_set (c := #[.int .i64 0]) (by rw [Below.heap_setCell _ _ _ _ (by simp)]; exact hI.r1)]
      simp
    have kB : Below w.heap.size w Y := by
      rw [hY]
      exact (hI.below.setCell (p := ⟨w.heap.size, 0, none⟩) (Nat.le_refl _) _).setCell (p := ⟨w.heap.size + 1, 0, none⟩) (Nat.le_succ _) _
    have hK' : Y.heap[D]? = some (.deferred (some [])) := by
      rw [hY]
      exact ((KeepsOthers.setCell W ⟨w.heap.size, 0, none⟩ (.slice ao (partsL r).length c)).trans (KeepsOthers.setCell _ ⟨w.heap.size + 1, 0, none⟩ (.int .i64 0))).same D _ hK rfl
    have kO : Y.ownsRow w.heap.size 9 1 (.slice ao (partsL r).length c) (partsL r).length (Sy (partsL r)) := by
      refine owns_base (owns_at HOWN.out (fun j e => ?_)) (show w.heap.size ≤ w.heap.size + 4 by omega)
      have := (HOWN.out.lt j e).1
      rw [hY, Below.heap_setCell _ _ _ _ (by show j ≠ w.heap.size + 1; omega), Below.heap_setCell _ _ _ _ (by show j ≠ w.heap.size; omega)]
    rw [← hY]
    clear hY
    have hnc : ∀ r, some D = some r → ∃ o : Obj, Y.heap[r]? = some o ∧ o.isCells = false := fun r e => by cases e; exact ⟨_, hK', rfl⟩
    have m1 : Y.cell? ⟨w.heap.size, 0, none⟩ = some (.slice ao (partsL r).length c) := by rw [blk_cell k1]; rfl
    have m2 : Y.cell? ⟨w.heap.size + 1, 0, none⟩ = some (.int .i64 0) := by rw [blk_cell k2]; rfl
    have c1 := cell_kept m1 (grownBy_putObj' _ D (.deferred none)) hnc
    have c2 := cell_kept m2 (grownBy_putObj' _ D (.deferred none)) hnc
    refine ⟨by simp, .inl ⟨_, _, rfl, run_takeDeferred hK', ?_⟩⟩
    refine ⟨.tuple #[.slice ao (partsL r).length c, .int .i64 0], ?_, .slice ao (partsL r).length c, ?_, ?_, ?_⟩
    · simp [results, Try.f22, go_sem, c1, c2]
    · rw [HSP.out]; rfl
    · rw [HSP.out]
      refine owns_at kO (fun j e => ?_)
      obtain ⟨cc, t, fr, hcc⟩ := owns_isC kO j e
      rw [keep_cells hcc (grownBy_putObj' _ D (.deferred none)) hnc, hcc]
    · exact kB.trans (belowK_b (w := w) (Nat.le_refl _) Y D _ _ hDw hK' rfl rfl)
  case stop =>
    rintro D c pre W hD ⟨k, hk, hpre⟩ hX hK
    have hDw : w.heap.size ≤ D := by omega
    have hret := hX.ret
    subst hret
    have hsp : splitL (47 :: r) = none := by
      simp only [splitL]
      rw [if_neg]
      rintro ⟨_, _, hall⟩
      obtain ⟨q, hq, hb⟩ := hX.bad
      rw [← parts_range r, List.all_map, List.all_eq_true] at hall
      have := hall q (by
        rw [hpre] at hq
        simp [List.mem_range'] at hq ⊢
        omega)
      simp [hb] at this
    have HSP := Hid.mk hsp
    have HX := Hid.mk hX
    clear hX hsp z0 z1 z2 z3 zb zs hseq hpre
    gi_wp2
    have hX := HX.out
    have hnc : ∀ r, some D = some r → ∃ o : Obj, W.heap[r]? = some o ∧ o.isCells = false := fun r e => by cases e; exact ⟨_, hK, rfl⟩
    have m1 : W.cell? ⟨w.heap.size, 0, none⟩ = some (.slice none 0 0) := by rw [blk_cell hX.r0]; rfl
    have m2 : W.cell? ⟨w.heap.size + 1, 0, none⟩ = some (.int .i64 15) := by rw [blk_cell hX.r1]; rfl
    have c1 := cell_kept m1 (grownBy_putObj' _ D (.deferred none)) hnc
    have c2 := cell_kept m2 (grownBy_putObj' _ D (.deferred none)) hnc
    refine ⟨by simp, .inl ⟨_, _, rfl, run_takeDeferred hK, ?_⟩⟩
    refine ⟨.tuple #[.slice none 0 0, .int .i64 15], ?_, .slice none 0 0, ?_, ?_, ?_⟩
    · simp [results, Try.f22, go_sem, c1, c2]
    · rw [HSP.out]; rfl
    · rw [HSP.out]; exact World.ownsRow_nil _ _ _ _
    · exact hX.below.trans (belowK_b (w := w) (Nat.le_refl _) W D _ _ hDw hK rfl rfl)

/-- Split, at every string. -/
theorem split_any (w : World) (s : ByteArray) (hs : s.size ≤ 16777216) :
    Calls Try.prog 22 #[.string s] w fun e w' => ∃ v, e = .returned (.tuple #[v, .int .i64 (splE (splitL (ofS s)))]) ∧ w'.ownsRow w.heap.size 9 1 v (splL (splitL (ofS s))).length (Sy (splL (splitL (ofS s)))) ∧ Below w.heap.size w w' := by
  have early : (Lib.hasPrefix (ofS s) [47] = false ∨ 500 < s.size) → splitL (ofS s) = none → Calls Try.prog 22 #[.string s] w fun e w' => ∃ v, e = .returned (.tuple #[v, .int .i64 (splE (splitL (ofS s)))]) ∧ w'.ownsRow w.heap.size 9 1 v (splL (splitL (ofS s))).length (Sy (splL (splitL (ofS s)))) ∧ Below w.heap.size w w' := fun h h2 => by
    refine (split_early w s hs h).mono ?_
    rintro e w' ⟨rfl, hB⟩
    exact ⟨_, by rw [h2]; rfl, by rw [h2]; exact World.ownsRow_nil _ _ _ _, hB⟩
  cases hl : ofS s with
  | nil =>
    rw [← hl]
    exact early (.inl (by rw [hl]; rfl)) (by rw [hl]; rfl)
  | cons c r =>
    rw [← hl]
    by_cases hc : c = 47
    · subst hc
      by_cases hr : r.length < 500
      · have := split_in w r hr
        unfold strV at this
        rw [← hl, mk_of] at this
        exact this
      · have hsz : s.size = r.length + 1 := by rw [← ofS_length, hl]; rfl
        exact early (.inr (by omega)) (by rw [hl]; exact split_long (by simp; omega))
    · have hne : ((47 : UInt8) == c) = false := by
        rw [beq_eq_false_iff_ne]
        exact fun e => hc e.symm
      refine early (.inl (by rw [hl]; simp [Lib.hasPrefix, List.isPrefixOf, hne])) (by rw [hl]; simp [splitL, hc])
end Go.Proofs.Ytbahbhaoimabdaa
