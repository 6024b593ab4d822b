/-
  The numbers of a set, and of the buffers, as a rising list.
-/
import Derived.Test.YthmbhcmicebcpaaDpMem2
import Derived.Test.YthmbhcmicebcpaaKeys
namespace Go.Proofs.Ythmbhcmicebcpaa
open Go Go.Proofs Go.RowKit Go.Shelf Go.Maps Go.Sort
attribute [local go_sem] Oper.semAt_some
theorem sorts_in (m : Nat) : AnyZI.SortsIn Try.prog sortedA_ren Fence.wide m :=
  ⟨fun blk off cap ss W hH hblk hsz => callsIn_wide.2 (AnyM.slices_Sort_int sortA blk off cap ss W hH hblk hsz), fun p cap W => callsIn_wide.2 (AnyM.slices_Sort_int_none sortA p cap W)⟩
/-- These are the keys. -/
def KeyL (f : Lit → Option Value) (L : List Int) : Prop := Rise L ∧ ∀ x, (f (.int .i64 x)).isSome = decide (x ∈ L)
theorem keys_perm2 {W : World} {m n : Nat} {f : Lit → Option Value} {L : List Int} {D : DataW Value} (hown : W.ownsMap Try.prog 3 rawE m n D) (hD : ∀ key kl, keyOf Try.prog 3 key = some kl → Maps.has D kl = (f kl).isSome ∧ ∀ v, f kl = some v → ∀ z, D.atKey kl z = .held v) (hL : KeyL f L) : L.Perm (intKeys D) := by
  have hwf := intKeys_wf hown Try.underlying3
  obtain ⟨es, rfl, h1, h2⟩ := hown.entries keyed3
  have hks : ∀ q ∈ es, ∃ x, q.1 = .int .i64 x := by
    intro q hq
    obtain ⟨es0, clock, hb, F, hs, hD0⟩ := hown
    cases hD0
    rw [mem_sorted] at hq
    obtain ⟨e0, he0, rfl⟩ := List.mem_map.1 hq
    obtain ⟨l, hl0⟩ := F.keys e0 he0
    obtain ⟨x, _, e2, _⟩ := Maps.keyOf_int_inv Try.underlying3 hl0
    refine ⟨x, ?_⟩
    have : (WideElems.rg Try.prog 3 rawE e0).1 = l := by simp [WideElems.rg, WideElems.rd, hl0, rawE]
    rw [this, e2]
  refine perm_intKeys h1 hks ?_ (fun x => ?_)
  · exact hL.1.1.imp (fun h => Int.ne_of_lt h)
  · by_cases hx : (Lit.int .i64 x).wf = true
    · rw [(hD _ _ (Maps.keyOf_int_mk Try.underlying3 hx)).1, hL.2]
      simp
    · constructor
      · intro hm
        exact absurd (hL.1.2 x hm) hx
      · intro hh
        rw [Maps.has_eq, List.any_eq_true] at hh
        obtain ⟨q, hq, hs⟩ := hh
        obtain ⟨y, hy⟩ := hks q hq
        have hys : x = y := by
          rw [hy] at hs
          by_cases e : (Lit.int .i64 y) = .int .i64 x
          · cases e; rfl
          · rw [Maps.sameKey_ne e] at hs; cases hs
        have := hwf y (by
          show y ∈ es.map _
          exact List.mem_map.2 ⟨q, hq, by rw [hy]; rfl⟩)
        rw [← hys] at this
        exact absurd this hx
theorem sort_id {l : List Int} (h : l.Pairwise (· < ·)) : l.mergeSort (fun x y => decide (x ≤ y)) = l :=
  List.mergeSort_of_pairwise (h.imp (fun h => decide_eq_true (Int.le_of_lt h)))

theorem seqA (w : World) (m : Option Nat) (n : Nat) (f : Lit → Option Value) (L : List Int) (h : MapAt w m n f) (hL : KeyL f L) (hn : L.length = n) :
    SeqGives Fence.wide 2 Try.prog 61 #[.pointer (some ⟨w.heap.size, 0, none⟩)] encZ (fun ss => ss.Perm L) n (w.alloc (.cells #[.map m] 62)) := by
  cases m with
  | none =>
    have h0 : n = 0 := h.1
    subst h0
    have hl : L = [] := List.eq_nil_of_length_eq_zero hn
    subst hl
    have := AnyZI.keys_gives_nil (ρ := keysA_ren) { keysA with } Fence.wide 2 trivial rfl w.heap.size (w.alloc (.cells #[.map none] 62)) (by simp) (by simp)
    have e : (fun ss : List Int => ss = []) = (fun ss => ss.Perm []) := funext (fun ss => propext List.perm_nil.symm)
    rw [e] at this
    exact this
  | some b =>
    obtain ⟨D, hown, hsz, hD⟩ := h
    have hbl := MAt.lt (⟨D, hown, hsz, hD⟩ : MAt w 3 b n f)
    have hperm := keys_perm2 hown hD hL
    have := AnyZI.keys_gives (ρ := keysA_ren) { keysA with } Fence.wide 2 trivial rfl (by omega) w.heap.size b n D (w.alloc (.cells #[.map (some b)] 62)) (by simp) (by simp) (by
      obtain ⟨es, clock, hb, Ft, hs, hD'⟩ := hown
      exact ⟨es, clock, (Below.heap_alloc _ _ b hbl).trans hb, Ft, hs, hD'⟩)
    rw [hsz] at this
    have e : (fun ss : List Int => ss.Perm (intKeys D)) = (fun ss => ss.Perm L) := funext (fun ss => propext ⟨fun h => h.trans hperm.symm, fun h => h.trans hperm⟩)
    rw [e] at this
    exact this

theorem seqB (w : World) (m : Option Nat) (n : Nat) (f : Lit → Option Value) (L : List Int) (h : MapAt w m n f) (hL : KeyL f L) (hn : L.length = n) :
    SeqGives Fence.wide 2 Try.prog 50 #[.pointer (some ⟨w.heap.size, 0, none⟩)] encZ (fun ss => ss.Perm L) n (w.alloc (.cells #[.map m] 58)) := by
  cases m with
  | none =>
    have h0 : n = 0 := h.1
    subst h0
    have hl : L = [] := List.eq_nil_of_length_eq_zero hn
    subst hl
    have := AnyZI.keys_gives_nil (ρ := keysB_ren) { keysB with } Fence.wide 2 trivial rfl w.heap.size (w.alloc (.cells #[.map none] 58)) (by simp) (by simp)
    have e : (fun ss : List Int => ss = []) = (fun ss => ss.Perm []) := funext (fun ss => propext List.perm_nil.symm)
    rw [e] at this
    exact this
  | some b =>
    obtain ⟨D, hown, hsz, hD⟩ := h
    have hbl := MAt.lt (⟨D, hown, hsz, hD⟩ : MAt w 3 b n f)
    have hperm := keys_perm2 hown hD hL
    have := AnyZI.keys_gives (ρ := keysB_ren) { keysB with } Fence.wide 2 trivial rfl (by omega) w.heap.size b n D (w.alloc (.cells #[.map (some b)] 58)) (by simp) (by simp) (by
      obtain ⟨es, clock, hb, Ft, hs, hD'⟩ := hown
      exact ⟨es, clock, (Below.heap_alloc _ _ b hbl).trans hb, Ft, hs, hD'⟩)
    rw [hsz] at this
    have e : (fun ss : List Int => ss.Perm (intKeys D)) = (fun ss => ss.Perm L) := funext (fun ss => propext ⟨fun h => h.trans hperm.symm, fun h => h.trans hperm⟩)
    rw [e] at this
    exact this

theorem StAt.mapAt {W : World} {m : Option Nat} {S : List Int} (h : StAt W m S) : MapAt W m S.length (setF S) ∧ KeyL (setF S) S := by
  refine ⟨?_, h.1, fun x => ?_⟩
  · cases m with
    | none =>
      have : S = [] := h.2
      subst this
      exact ⟨rfl, fun l => by unfold setF; split <;> simp⟩
    | some b => exact h.2
  · rw [setF_int]
    by_cases hx : x ∈ S <;> simp [hx]

set_option maxRecDepth 100000 in
set_option maxHeartbeats 2000000 in
theorem rising_map (w : World) (b off : Nat) (m : Option Nat) (f : Lit → Option Value) (L : List Int) (hc : w.cell? ⟨b, off, none⟩ = some (.map m)) (h : MapAt w m L.length f) (hL : KeyL f L) (hn : L.length ≤ 1048576) :
    Calls Try.prog 33 #[.pointer (some ⟨b, off, none⟩)] w fun e w' => ∃ v, e = .returned v ∧ w'.ownsRow w.heap.size 3 1 v L.length (Iy L) ∧ (v = .slice none 0 0 ↔ L = []) ∧ Below w.heap.size w w' := by
  refine (callsIn_wide (n := 6)).1 ?_
  have hseq := seqA w m L.length f L h hL rfl
  have hmax : L.length ≤ maxLen := by unfold maxLen; omega
  have hbytes : L.length * 8 ≤ 140737488355328 := by omega
  have cK : ∀ mb W, CallsIn Fence.wide 5 Try.prog 48 #[.map mb] W fun e w' => e = .returned (.func (.func 61) #[] #[.pointer (some ⟨W.heap.size, 0, none⟩)]) ∧ w' = W.alloc (.cells #[.map mb] 62) := fun mb W => AnyZI.keys_in keysA Fence.wide 5 trivial rfl mb W
  have cS := AnyZI.sorted_in sortedA Fence.wide 5 trivial trivial trivial trivial rfl (by omega) (sorts_in _) (enters_of Try.func39 (by kernel_rfl) rfl) 61 #[.pointer (some ⟨w.heap.size, 0, none⟩)] trivial (enters_of Try.func61 (by kernel_rfl) rfl) _ _ hmax hbytes _ hseq
  change CallsIn _ _ Try.prog 35 _ _ _ at cS
  have CK := Hid.mk cK
  have CS := Hid.mk cS
  have HPS := Hid.mk hL.1.1
  clear cK cS hseq hmax hbytes hL h
  refine callsIn_of_wp Try.func33 rfl trivial ?_ rfl
  simp only [Try.ntmps33, List.size_toArray, List.length_cons, List.length_nil, Nat.reduceAdd, Nat.reduceSub, Array.replicate_succ, Array.replicate_zero, List.push_toArray, List.append_toArray, List.nil_append, List.cons_append]
  gi_wp2_with (first
    | (refine ⟨trivial, ?_⟩; gi_at_call 48; refine (CK.out _ _).mono ?_; rintro e w' ⟨rfl, hw⟩; subst w')
    | (refine ⟨trivial, ?_⟩; gi_at_call 35; refine CS.out.mono ?_; rintro e w' ⟨v, ss, rfl, hS, hrow, hnil, hb⟩; have HS := Hid.mk hS; have HROW := Hid.mk hrow; have HBB := Hid.mk hb; have HNIL := Hid.mk hnil; clear hS hrow hnil hb))
  go_ret
  have e1 : ss.mergeSort (fun x y => decide (x ≤ y)) = L := by
    rw [mergeSort_of_perm_i HS.out]
    exact sort_id HPS.out
  have hlen : ss.length = L.length := HS.out.length_eq
  have hrow := HROW.out
  rw [e1, hlen] at hrow
  refine ⟨_, rfl, owns_base hrow (by simp), HNIL.out.trans ⟨fun e => ?_, fun e => ?_⟩, ((Below.refl _ w).alloc (Nat.le_refl _) _).trans (HBB.out.mono (by simp))⟩
  · have := hlen
    rw [e] at this
    exact List.eq_nil_of_length_eq_zero this.symm
  · have := hlen
    rw [e] at this
    exact List.eq_nil_of_length_eq_zero this

set_option maxRecDepth 100000 in
set_option maxHeartbeats 2000000 in
theorem bufs_map (w : World) (g : Nat) (m : Option Nat) (f : Lit → Option Value) (L : List Int) (hc : w.cell? ⟨g, 2, none⟩ = some (.map m)) (h : MapAt w m L.length f) (hL : KeyL f L) (hn : L.length ≤ 1048576) :
    Calls Try.prog 20 #[ptV g] w fun e w' => ∃ v, e = .returned v ∧ w'.ownsRow w.heap.size 3 1 v L.length (Iy L) ∧ (v = .slice none 0 0 ↔ L = []) ∧ Below w.heap.size w w' := by
  refine (callsIn_wide (n := 6)).1 ?_
  have hseq := seqB w m L.length f L h hL rfl
  have hmax : L.length ≤ maxLen := by unfold maxLen; omega
  have hbytes : L.length * 8 ≤ 140737488355328 := by omega
  have cK : ∀ mb W, CallsIn Fence.wide 5 Try.prog 36 #[.map mb] W fun e w' => e = .returned (.func (.func 50) #[] #[.pointer (some ⟨W.heap.size, 0, none⟩)]) ∧ w' = W.alloc (.cells #[.map mb] 58) := fun mb W => AnyZI.keys_in keysB Fence.wide 5 trivial rfl mb W
  have cS := AnyZI.sorted_in sortedA Fence.wide 5 trivial trivial trivial trivial rfl (by omega) (sorts_in _) (enters_of Try.func39 (by kernel_rfl) rfl) 50 #[.pointer (some ⟨w.heap.size, 0, none⟩)] trivial (enters_of Try.func50 (by kernel_rfl) rfl) _ _ hmax hbytes _ hseq
  change CallsIn _ _ Try.prog 35 _ _ _ at cS
  have CK := Hid.mk cK
  have CS := Hid.mk cS
  have HPS := Hid.mk hL.1.1
  clear cK cS hseq hmax hbytes hL h
  refine callsIn_of_wp Try.func20 rfl trivial ?_ rfl
  simp only [Try.ntmps20, List.size_toArray, List.length_cons, List.length_nil, Nat.reduceAdd, Nat.reduceSub, Array.replicate_succ, Array.replicate_zero, List.push_toArray, List.append_toArray, List.nil_append, List.cons_append]
  gi_wp2_with (first
    | (refine ⟨trivial, ?_⟩; gi_at_call 36; refine (CK.out _ _).mono ?_; rintro e w' ⟨rfl, hw⟩; subst w')
    | (refine ⟨trivial, ?_⟩; gi_at_call 35; refine CS.out.mono ?_; rintro e w' ⟨v, ss, rfl, hS, hrow, hnil, hb⟩; have HS := Hid.mk hS; have HROW := Hid.mk hrow; have HBB := Hid.mk hb; have HNIL := Hid.mk hnil; clear hS hrow hnil hb))
  go_ret
  have e1 : ss.mergeSort (fun x y => decide (x ≤ y)) = L := by
    rw [mergeSort_of_perm_i HS.out]
    exact sort_id HPS.out
  have hlen : ss.length = L.length := HS.out.length_eq
  have hrow := HROW.out
  rw [e1, hlen] at hrow
  refine ⟨_, rfl, owns_base hrow (by simp), HNIL.out.trans ⟨fun e => ?_, fun e => ?_⟩, ((Below.refl _ w).alloc (Nat.le_refl _) _).trans (HBB.out.mono (by simp))⟩
  · have := hlen
    rw [e] at this
    exact List.eq_nil_of_length_eq_zero this.symm
  · have := hlen
    rw [e] at this
    exact List.eq_nil_of_length_eq_zero this

theorem rising_any (w : World) (b off : Nat) (m : Option Nat) (S : List Int) (hc : w.cell? ⟨b, off, none⟩ = some (.map m)) (h : StAt w m S) (hn : S.length ≤ 1048576) :
    Calls Try.prog 33 #[.pointer (some ⟨b, off, none⟩)] w fun e w' => ∃ v, e = .returned v ∧ w'.ownsRow w.heap.size 3 1 v S.length (Iy S) ∧ (v = .slice none 0 0 ↔ S = []) ∧ Below w.heap.size w w' :=
  rising_map w b off m (setF S) S hc h.mapAt.1 h.mapAt.2 hn
end Go.Proofs.Ythmbhcmicebcpaa
