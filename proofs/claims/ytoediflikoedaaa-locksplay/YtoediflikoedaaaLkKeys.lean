/-
  The numbers of a map, as a rising list; Holders.
-/
import Derived.Test.YtoediflikoedaaaLkBoth
import Derived.Test.YtoediflikoedaaaKeys
namespace Go.Proofs.Ytoediflikoedaaa
open Go Go.Proofs Go.RowKit Go.Shelf Go.Maps Go.Sort
attribute [local go_sem] Oper.semAt_some
theorem sorts_in (m : Nat) : AnyZI.SortsIn Try.prog sortedA_ren Fence.wide m :=
  ⟨fun blk off cap ss W hH hblk hsz => callsIn_wide.2 (AnyM.slices_Sort_int sortA blk off cap ss W hH hblk hsz), fun p cap W => callsIn_wide.2 (AnyM.slices_Sort_int_none sortA p cap W)⟩
/-- These are the keys. -/
def KeyL (f : Lit → Option Value) (L : List Int) : Prop := Rise L ∧ ∀ x, (f (.int .i64 x)).isSome = decide (x ∈ L)
theorem keys_perm2 {W : World} {m n : Nat} {f : Lit → Option Value} {L : List Int} {D : DataW Value} (hown : W.ownsMap Try.prog 3 rawE m n D) (hD : ∀ key kl, keyOf Try.prog 3 key = some kl → Maps.has D kl = (f kl).isSome ∧ ∀ v, f kl = some v → ∀ z, D.atKey kl z = .held v) (hL : KeyL f L) : L.Perm (intKeys D) := by
  have hwf := intKeys_wf hown Try.underlying3
  obtain ⟨es, rfl, h1, h2⟩ := hown.entries keyed3
  have hks : ∀ q ∈ es, ∃ x, q.1 = .int .i64 x := by
    intro q hq
    obtain ⟨es0, clock, hb, F, hs, hD0⟩ := hown
    cases hD0
    rw [mem_sorted] at hq
    obtain ⟨e0, he0, rfl⟩ := List.mem_map.1 hq
    obtain ⟨l, hl0⟩ := F.keys e0 he0
    obtain ⟨x, _, e2, _⟩ := Maps.keyOf_int_inv Try.underlying3 hl0
    refine ⟨x, ?_⟩
    have : (WideElems.rg Try.prog 3 rawE e0).1 = l := by simp [WideElems.rg, WideElems.rd, hl0, rawE]
    rw [this, e2]
  refine perm_intKeys h1 hks ?_ (fun x => ?_)
  · exact hL.1.1.imp (fun h => Int.ne_of_lt h)
  · by_cases hx : (Lit.int .i64 x).wf = true
    · rw [(hD _ _ (Maps.keyOf_int_mk Try.underlying3 hx)).1, hL.2]
      simp
    · constructor
      · intro hm
        exact absurd (hL.1.2 x hm) hx
      · intro hh
        rw [Maps.has_eq, List.any_eq_true] at hh
        obtain ⟨q, hq, hs⟩ := hh
        obtain ⟨y, hy⟩ := hks q hq
        have hys : x = y := by
          rw [hy] at hs
          by_cases e : (Lit.int .i64 y) = .int .i64 x
          · cases e; rfl
          · rw [Maps.sameKey_ne e] at hs; cases hs
        have := hwf y (by
          show y ∈ es.map _
          exact List.mem_map.2 ⟨q, hq, by rw [hy]; rfl⟩)
        rw [← hys] at this
        exact absurd this hx
theorem sort_id {l : List Int} (h : l.Pairwise (· < ·)) : l.mergeSort (fun x y => decide (x ≤ y)) = l :=
  List.mergeSort_of_pairwise (h.imp (fun h => decide_eq_true (Int.le_of_lt h)))

theorem seqA (w : World) (m : Option Nat) (n : Nat) (f : Lit → Option Value) (L : List Int) (h : MapAt w m n f) (hL : KeyL f L) (hn : L.length = n) :
    SeqGives Fence.wide 2 Try.prog 45 #[.pointer (some ⟨w.heap.size, 0, none⟩)] encZ (fun ss => ss.Perm L) n (w.alloc (.cells #[.map m] 65)) := by
  cases m with
  | none =>
    have h0 : n = 0 := h.1
    subst h0
    have hl : L = [] := List.eq_nil_of_length_eq_zero hn
    subst hl
    have := AnyZI.keys_gives_nil (ρ := keysA_ren) { keysA with } Fence.wide 2 trivial rfl w.heap.size (w.alloc (.cells #[.map none] 65)) (by simp) (by simp)
    have e : (fun ss : List Int => ss = []) = (fun ss => ss.Perm []) := funext (fun ss => propext List.perm_nil.symm)
    rw [e] at this
    exact this
  | some b =>
    obtain ⟨D, hown, hsz, hD⟩ := h
    have hbl := MAt.lt (⟨D, hown, hsz, hD⟩ : MAt w 3 b n f)
    have hperm := keys_perm2 hown hD hL
    have := AnyZI.keys_gives (ρ := keysA_ren) { keysA with } Fence.wide 2 trivial rfl (by omega) w.heap.size b n D (w.alloc (.cells #[.map (some b)] 65)) (by simp) (by simp) (by
      obtain ⟨es, clock, hb, Ft, hs, hD'⟩ := hown
      exact ⟨es, clock, (Below.heap_alloc _ _ b hbl).trans hb, Ft, hs, hD'⟩)
    rw [hsz] at this
    have e : (fun ss : List Int => ss.Perm (intKeys D)) = (fun ss => ss.Perm L) := funext (fun ss => propext ⟨fun h => h.trans hperm.symm, fun h => h.trans hperm⟩)
    rw [e] at this
    exact this

theorem seqB (w : World) (m : Option Nat) (n : Nat) (f : Lit → Option Value) (L : List Int) (h : MapAt w m n f) (hL : KeyL f L) (hn : L.length = n) :
    SeqGives Fence.wide 2 Try.prog 49 #[.pointer (some ⟨w.heap.size, 0, none⟩)] encZ (fun ss => ss.Perm L) n (w.alloc (.cells #[.map m] 52)) := by
  cases m with
  | none =>
    have h0 : n = 0 := h.1
    subst h0
    have hl : L = [] := List.eq_nil_of_length_eq_zero hn
    subst hl
    have := AnyZI.keys_gives_nil (ρ := keysB_ren) { keysB with } Fence.wide 2 trivial rfl w.heap.size (w.alloc (.cells #[.map none] 52)) (by simp) (by simp)
    have e : (fun ss : List Int => ss = []) = (fun ss => ss.Perm []) := funext (fun ss => propext List.perm_nil.symm)
    rw [e] at this
    exact this
  | some b =>
    obtain ⟨D, hown, hsz, hD⟩ := h
    have hbl := MAt.lt (⟨D, hown, hsz, hD⟩ : MAt w 3 b n f)
    have hperm := keys_perm2 hown hD hL
    have := AnyZI.keys_gives (ρ := keysB_ren) { keysB with } Fence.wide 2 trivial rfl (by omega) w.heap.size b n D (w.alloc (.cells #[.map (some b)] 52)) (by simp) (by simp) (by
      obtain ⟨es, clock, hb, Ft, hs, hD'⟩ := hown
      exact ⟨es, clock, (Below.heap_alloc _ _ b hbl).trans hb, Ft, hs, hD'⟩)
    rw [hsz] at this
    have e : (fun ss : List Int => ss.Perm (intKeys D)) = (fun ss => ss.Perm L) := funext (fun ss => propext ⟨fun h => h.trans hperm.symm, fun h => h.trans hperm⟩)
    rw [e] at this
    exact this

theorem StAt.mapAt {W : World} {m : Option Nat} {S : List Int} (h : StAt W m S) : MapAt W m S.length (setF S) ∧ KeyL (setF S) S := by
  refine ⟨?_, h.1, fun x => ?_⟩
  · cases m with
    | none =>
      have : S = [] := h.2
      subst this
      exact ⟨rfl, fun l => by unfold setF; split <;> simp⟩
    | some b => exact h.2
  · rw [setF_int]
    by_cases hx : x ∈ S <;> simp [hx]

/-- maps.Keys and slices.Sorted, one behind the other. -/
theorem keysA_call (m : Option Nat) (W : World) : Calls Try.prog 36 #[.map m] W fun e w' => e = .returned (.func (.func 45) #[] #[.pointer (some ⟨W.heap.size, 0, none⟩)]) ∧ w' = W.alloc (.cells #[.map m] 65) := (callsIn_wide (n := 5)).1 (AnyZI.keys_in keysA Fence.wide 5 trivial rfl m W)
theorem keysB_call (m : Option Nat) (W : World) : Calls Try.prog 41 #[.map m] W fun e w' => e = .returned (.func (.func 49) #[] #[.pointer (some ⟨W.heap.size, 0, none⟩)]) ∧ w' = W.alloc (.cells #[.map m] 52) := (callsIn_wide (n := 5)).1 (AnyZI.keys_in keysB Fence.wide 5 trivial rfl m W)
theorem sortedA_call (w : World) (m : Option Nat) (f : Lit → Option Value) (L : List Int) (h : MapAt w m L.length f) (hL : KeyL f L) (hn : L.length ≤ 1048576) : Calls Try.prog 35 #[.func (.func 45) #[] #[.pointer (some ⟨w.heap.size, 0, none⟩)]] (w.alloc (.cells #[.map m] 65)) fun e w' => ∃ v, e = .returned v ∧ Hid (w'.ownsRow w.heap.size 3 1 v L.length (Iy L) ∧ (v = .slice none 0 0 ↔ L = []) ∧ Below w.heap.size w w') := by
  have hseq := seqA w m L.length f L h hL rfl
  have hmax : L.length ≤ maxLen := by unfold maxLen; omega
  have hbytes : L.length * 8 ≤ 140737488355328 := by omega
  have cS := AnyZI.sorted_in sortedA Fence.wide 5 trivial trivial trivial trivial rfl (by omega) (sorts_in _) (enters_of Try.func44 (by kernel_rfl) rfl) 45 #[.pointer (some ⟨w.heap.size, 0, none⟩)] trivial (enters_of Try.func45 (by kernel_rfl) rfl) _ _ hmax hbytes _ hseq
  change CallsIn _ _ Try.prog 35 _ _ _ at cS
  refine ((callsIn_wide (n := 5)).1 cS).mono ?_
  rintro e w' ⟨v, ss, rfl, hS, hrow, hnil, hb⟩
  have e1 : ss.mergeSort (fun x y => decide (x ≤ y)) = L := by
    rw [mergeSort_of_perm_i hS]
    exact sort_id hL.1.1
  have hlen : ss.length = L.length := hS.length_eq
  rw [e1, hlen] at hrow
  refine ⟨v, rfl, Hid.mk ⟨owns_base hrow (by simp), hnil.trans ⟨fun e => ?_, fun e => ?_⟩, ((Below.refl _ w).alloc (Nat.le_refl _) _).trans (hb.mono (by simp))⟩⟩
  · rw [e] at hlen
    exact List.eq_nil_of_length_eq_zero hlen.symm
  · rw [e] at hlen
    exact List.eq_nil_of_length_eq_zero hlen
theorem sortedB_call (w : World) (m : Option Nat) (f : Lit → Option Value) (L : List Int) (h : MapAt w m L.length f) (hL : KeyL f L) (hn : L.length ≤ 1048576) : Calls Try.prog 35 #[.func (.func 49) #[] #[.pointer (some ⟨w.heap.size, 0, none⟩)]] (w.alloc (.cells #[.map m] 52)) fun e w' => ∃ v, e = .returned v ∧ Hid (w'.ownsRow w.heap.size 3 1 v L.length (Iy L) ∧ (v = .slice none 0 0 ↔ L = []) ∧ Below w.heap.size w w') := by
  have hseq := seqB w m L.length f L h hL rfl
  have hmax : L.length ≤ maxLen := by unfold maxLen; omega
  have hbytes : L.length * 8 ≤ 140737488355328 := by omega
  have cS := AnyZI.sorted_in sortedA Fence.wide 5 trivial trivial trivial trivial rfl (by omega) (sorts_in _) (enters_of Try.func44 (by kernel_rfl) rfl) 49 #[.pointer (some ⟨w.heap.size, 0, none⟩)] trivial (enters_of Try.func49 (by kernel_rfl) rfl) _ _ hmax hbytes _ hseq
  change CallsIn _ _ Try.prog 35 _ _ _ at cS
  refine ((callsIn_wide (n := 5)).1 cS).mono ?_
  rintro e w' ⟨v, ss, rfl, hS, hrow, hnil, hb⟩
  have e1 : ss.mergeSort (fun x y => decide (x ≤ y)) = L := by
    rw [mergeSort_of_perm_i hS]
    exact sort_id hL.1.1
  have hlen : ss.length = L.length := hS.length_eq
  rw [e1, hlen] at hrow
  refine ⟨v, rfl, Hid.mk ⟨owns_base hrow (by simp), hnil.trans ⟨fun e => ?_, fun e => ?_⟩, ((Below.refl _ w).alloc (Nat.le_refl _) _).trans (hb.mono (by simp))⟩⟩
  · rw [e] at hlen
    exact List.eq_nil_of_length_eq_zero hlen.symm
  · rw [e] at hlen
    exact List.eq_nil_of_length_eq_zero hlen
def holdL (h : Option (List Int × Bool)) : List Int := match h with
  | none => []
  | some x => x.1
section
variable {F : Nat → Prop} {w : World} {t : Nat} {D : Td}
set_option maxRecDepth 100000 in
set_option maxHeartbeats 2000000 in
theorem holders_any (h : TbAt F w t D) (tg : Int) (htg : (Lit.int .i64 tg).wf = true) {N : Nat} (hf : Fit N D) (hN : N ≤ 1000000) : Calls Try.prog 18 #[ptV t, .int .i64 tg] w fun e w' => ∃ v, e = .returned v ∧ Hid (w'.ownsRow w.heap.size 3 1 v (holdL (D.abs.held tg)).length (Iy (holdL (D.abs.held tg))) ∧ Below w.heap.size w w') := by
  have c0 := h.cells.1
  cases hx : D.held tg with
  | none =>
    have q1 := h.lookH_none htg hx
    have q2 := nep_none
    have e1 : holdL (D.abs.held tg) = [] := by rw [abs_at hx]; rfl
    rw [e1]
    go_enter Try.func18, Try.ntmps18
    go_wp2
    go_ret
    exact ⟨_, rfl, Hid.mk ⟨World.ownsRow_nil _ _ _ _, Below.refl _ _⟩⟩
  | some x =>
    have q1 := h.lookH_some htg hx
    have q2 := nep_some x.b
    obtain ⟨⟨_, _, hb⟩, _, _, hs⟩ := h.hx hx
    have c1 : w.cell? ⟨x.b, 0, none⟩ = some (.map (some x.m)) := by rw [blk_cell hb]; rfl
    have e1 : holdL (D.abs.held tg) = x.S := by rw [abs_at hx]; rfl
    rw [e1]
    obtain ⟨⟨B, hB1, hB2⟩, _⟩ := hf
    have HS := Hid.mk (sortedA_call w (some x.m) (setF x.S) x.S hs.mapAt.1 hs.mapAt.2 (by have := hB1.2 _ _ hx; omega))
    have HK := Hid.mk (keysA_call (some x.m) w)
    clear h hb hs hx hB1 e1
    go_enter Try.func18, Try.ntmps18
    go_wp2_with (first
      | (go_at_call 36; refine HK.out.mono ?_; rintro e w1 ⟨rfl, hw1⟩; subst hw1; clear HK)
      | (go_at_call 35; refine HS.out.mono ?_; rintro e w2 ⟨v, rfl, H2⟩; clear HS)
      | go_in)
    go_ret
    exact ⟨_, rfl, Hid.mk ⟨H2.out.1, H2.out.2.2⟩⟩
end
theorem clone_any (w : World) (m : Nat) (S : List Int) (h : StAt w (some m) S) : Calls Try.prog 48 #[.map (some m)] w fun e w' => e = .returned (.map (some w.heap.size)) ∧ StAt w' (some w.heap.size) S ∧ Below w.heap.size w w' ∧ w.heap.size < w'.heap.size := by
  obtain ⟨hR, DD, hown, hsz, hD⟩ := h
  refine (AnyW.maps_Clone_owns cloneA 3 rawE m S.length DD w hown).mono ?_
  rintro e w' ⟨rfl, h1, _, h3⟩
  exact ⟨rfl, ⟨hR, DD, h1, hsz, hD⟩, h3, h1.lt⟩
end Go.Proofs.Ytoediflikoedaaa
