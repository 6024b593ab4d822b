/-
  The small ones: isNone, whether one of a row is none, Left, Next, Blocked, New.
-/
import Derived.Test.YthmbhcmicebcpaaDpKeep
import Derived.Test.YthmbhcmicebcpaaDpRows
namespace Go.Proofs.Ythmbhcmicebcpaa
open Go Go.Proofs Go.RowKit Go.Shelf
def noneB (n : Nat) (x : Int) : Bool := decide (x < 0 ∨ (n : Int) ≤ x)
section
variable {F : Nat → Prop} {w : World} {g : Nat} {D : Gd}
set_option maxRecDepth 100000 in
theorem isnone_raw (w : World) (g n : Nat) (hc : w.cell? ⟨g, 0, none⟩ = some (.int .i64 (n : Nat))) (x : Int) : Calls Try.prog 32 #[ptV g, .int .i64 x] w fun e w' => e = .returned (.bool (noneB n x)) ∧ w' = w := by
  by_cases h1 : x < 0
  · have e : noneB n x = true := by unfold noneB; simp [h1]
    rw [e]
    go_enter Try.func32, Try.ntmps32
    go_wp2
    go_ret
    exact ⟨rfl, rfl⟩
  · by_cases h2 : (n : Int) ≤ x
    · have e : noneB n x = true := by unfold noneB; simp [h2]
      rw [e]
      go_enter Try.func32, Try.ntmps32
      go_wp2
      go_ret
      exact ⟨rfl, rfl⟩
    · have e : noneB n x = false := by unfold noneB; simp [h1, h2]
      rw [e]
      have h3 : ¬ x ≥ (n : Int) := by omega
      go_enter Try.func32, Try.ntmps32
      go_wp2
      go_ret
      exact ⟨rfl, rfl⟩
set_option maxRecDepth 100000 in
set_option maxHeartbeats 2000000 in
theorem indexf_raw (w : World) (g n : Nat) (hc : w.cell? ⟨g, 0, none⟩ = some (.int .i64 (n : Nat))) (ao : Option Addr) (m cc : Nat) (xs : List Int) (hx : LAt w ao m xs) (hm : m ≤ 1000000000) :
    Calls Try.prog 59 #[.slice ao m cc, .func (.func 32) #[ptV g] #[]] w fun e w' => (∃ k : Int, e = .returned (.int .i64 k) ∧ decide (0 ≤ k) = xs.any (noneB n)) ∧ w' = w := by
  have HX := Hid.mk hx
  have HN : Hid (∀ x : Int, Calls Try.prog 32 #[ptV g, .int .i64 x] w fun e w' => e = .returned (.bool (noneB n x)) ∧ w' = w) := Hid.mk (isnone_raw w g n hc)
  clear hx hc
  go_enter Try.func59, Try.ntmps59
  go_wp2
  go_loopw [8] (fun v wr => ∃ j : Nat, v = .int .i64 j ∧ Hid (j ≤ m) ∧ Hid ((xs.take j).any (noneB n) = false) ∧ wr = w) (fun v _ => m - (Go.RowKit.intOf v).toNat)
  case atStart => exact ⟨0, rfl, Hid.mk (Nat.zero_le _), Hid.mk rfl, rfl⟩
  case round =>
    obtain ⟨j, rfl, hj, HA, rfl⟩ := hrel
    by_cases hlt : (j : Int) < (m : Int)
    · have hjm : j < m := by omega
      obtain ⟨a, rfl, hca⟩ := HX.out.at j hjm
      have u1 : IntKind.i64.wrap ((j : Int) + 1) = ((j + 1 : Nat) : Int) := by rw [IntKind.wrap_i64]; omega
      have u2 : (0 : Int) ≤ (j : Int) := by omega
      have HJ := Hid.mk hjm
      have hlx : j < xs.length := by rw [HX.out.1]; exact hjm
      have htk : (xs.take (j + 1)).any (noneB n) = ((xs.take j).any (noneB n) || noneB n (xs.getD j 0)) := by
        rw [List.take_add_one, List.any_append, List.getElem?_eq_getElem hlx, List.getD_eq_getElem?_getD, List.getElem?_eq_getElem hlx]
        simp
      have HTK := Hid.mk htk
      have HDR : Hid (xs.any (noneB n) = ((xs.take (j + 1)).any (noneB n) || (xs.drop (j + 1)).any (noneB n))) := Hid.mk (by rw [← List.any_append, List.take_append_drop])
      generalize hxv : xs.getD j 0 = x at hca HTK
      have HNX := Hid.mk (HN.out x)
      clear htk hxv hlx
      cases hb : noneB n x with
      | true =>
        rw [hb] at HNX HTK
        clear hb
        go_wp2_with (go_at_call 32; refine HNX.out.mono ?_; rintro e w1 ⟨rfl, hw1⟩; subst hw1)
        go_ret
        refine ⟨⟨_, rfl, ?_⟩, rfl⟩
        rw [HDR.out, HTK.out]
        simp
      | false =>
        rw [hb] at HNX HTK
        clear hb
        go_wp2_with (go_at_call 32; refine HNX.out.mono ?_; rintro e w1 ⟨rfl, hw1⟩; subst hw1)
        go_roundw
        case rel => exact ⟨j + 1, rfl, Hid.mk HJ.out, Hid.mk (by rw [HTK.out, HA.out]; rfl), by first | rfl | trivial⟩
        case measure => (have := HJ.out; simp [Go.RowKit.intOf]; omega)
    · obtain rfl : j = m := by have := hj.out; omega
      go_wp2
      go_ret
      refine ⟨⟨_, rfl, ?_⟩, rfl⟩
      have := HA.out
      rw [List.take_of_length_le (by rw [HX.out.1]; exact Nat.le_refl _)] at this
      rw [this]
      decide
set_option maxRecDepth 100000 in
theorem contains_raw (w : World) (g n : Nat) (hc : w.cell? ⟨g, 0, none⟩ = some (.int .i64 (n : Nat))) (ao : Option Addr) (m cc : Nat) (xs : List Int) (hx : LAt w ao m xs) (hm : m ≤ 1000000000) :
    Calls Try.prog 46 #[.slice ao m cc, .func (.func 32) #[ptV g] #[]] w fun e w' => e = .returned (.bool (xs.any (noneB n))) ∧ w' = w := by
  have HI := Hid.mk (indexf_raw w g n hc ao m cc xs hx hm)
  clear hx hc
  go_enter Try.func46, Try.ntmps46
  go_wp2_with (go_at_call 59; refine HI.out.mono ?_; rintro e w1 ⟨⟨k, rfl, hk⟩, hw1⟩; subst hw1)
  go_ret
  refine ⟨?_, rfl⟩
  rw [← hk]
  try rfl
  try trace_state
/-- Left. -/
theorem left_any (h : GrAt F w g D) : Calls Try.prog 13 #[ptV g] w fun e w' => e = .returned (.int .i64 (D.nl : Nat)) ∧ w' = w := by
  obtain ⟨_, g1, _, _⟩ := h.cellsG
  have q1 : (Builtin.len_ #[57] 3 #[.map D.lm]).run Try.prog w = .ok (.int .i64 (D.nl : Nat)) w := by
    have hm : MapAt w D.lm D.nl (leftF D.ch) := h.cont .left
    cases hl : D.lm with
    | none =>
      rw [hl] at hm
      rw [Maps.len_nil Try.underlying57 3, hm.1]
      rfl
    | some b =>
      rw [hl] at hm
      exact MAt.len hm Try.underlying57 3
  go_enter Try.func13, Try.ntmps13
  go_wp2
  go_ret
  exact ⟨rfl, rfl⟩
set_option maxRecDepth 100000 in
theorem next_any (h : GrAt F w g D) {b : Int} (hw : (Lit.int .i64 b).wf = true) (hn : ∀ x, D.bf b = some x → x.nx.length ≤ 1000000) :
    Calls Try.prog 16 #[ptV g, .int .i64 b] w fun e w' => ∃ v, e = .returned v ∧ w'.ownsRow w.heap.size 3 1 v (((D.bf b).map (·.nx)).getD []).length (Iy (((D.bf b).map (·.nx)).getD [])) ∧ Below w.heap.size w w' := by
  obtain ⟨_, _, g2, _⟩ := h.cellsG
  have q1 := h.lookB hw
  cases hb : D.bf b with
  | none =>
    rw [hb] at q1
    simp only [Option.map_none, optV] at q1
    go_enter Try.func16, Try.ntmps16
    go_wp2
    go_ret
    exact ⟨_, rfl, World.ownsRow_nil _ _ _ _, Below.refl _ _⟩
  | some x =>
    rw [hb] at q1
    simp only [Option.map_some, optV] at q1
    have HR := Hid.mk (rising_any w x.bb 0 x.nm x.nx (h.cellsB hb).1 (h.cont (.nx b) x hb) (by have := hn x hb; omega))
    go_enter Try.func16, Try.ntmps16
    go_wp2_with (go_at_call 33; refine HR.out.mono ?_; rintro e w1 ⟨v, rfl, hr, _, hB⟩; have H1 := Hid.mk (And.intro hr hB); clear hr hB)
    go_ret
    exact ⟨_, rfl, H1.out.1, H1.out.2⟩
set_option maxRecDepth 100000 in
theorem blocked_any (h : GrAt F w g D) {b : Int} (hw : (Lit.int .i64 b).wf = true) (hn : ∀ x, D.bf b = some x → x.bl.length ≤ 1000000) :
    Calls Try.prog 18 #[ptV g, .int .i64 b] w fun e w' => ∃ v, e = .returned v ∧ w'.ownsRow w.heap.size 3 1 v (((D.bf b).map (·.bl)).getD []).length (Iy (((D.bf b).map (·.bl)).getD [])) ∧ Below w.heap.size w w' := by
  obtain ⟨_, _, g2, _⟩ := h.cellsG
  have q1 := h.lookB hw
  cases hb : D.bf b with
  | none =>
    rw [hb] at q1
    simp only [Option.map_none, optV] at q1
    go_enter Try.func18, Try.ntmps18
    go_wp2
    go_ret
    exact ⟨_, rfl, World.ownsRow_nil _ _ _ _, Below.refl _ _⟩
  | some x =>
    rw [hb] at q1
    simp only [Option.map_some, optV] at q1
    have HR := Hid.mk (rising_any w x.bb 1 x.km x.bl (h.cellsB hb).2.1 (h.cont (.bl b) x hb) (by have := hn x hb; omega))
    go_enter Try.func18, Try.ntmps18
    go_wp2_with (go_at_call 33; refine HR.out.mono ?_; rintro e w1 ⟨v, rfl, hr, _, hB⟩; have H1 := Hid.mk (And.intro hr hB); clear hr hB)
    go_ret
    exact ⟨_, rfl, H1.out.1, H1.out.2⟩
/-- A graph without changes. -/
def newD : Gd := ⟨0, none, none, fun _ => none, fun _ => none, 0, 0⟩
set_option maxRecDepth 100000 in
theorem new_any (w : World) : Calls Try.prog 28 #[] w fun e w' => e = .returned (ptV w.heap.size) ∧ GrAt (fun k => k = w.heap.size) w' w.heap.size newD ∧ Below w.heap.size w w' := by
  go_enter Try.func28, Try.ntmps28
  go_wp2
  go_ret
  refine ⟨rfl, ⟨?_, ?_, ?_⟩, (Below.refl _ w).alloc (Nat.le_refl _) _⟩
  · intro n k hk
    cases n with
    | g => exact ⟨hk, by subst hk; simp⟩
    | left => cases hk
    | bufs => cases hk
    | ch j => obtain ⟨_, hc, _⟩ := hk; cases hc
    | on j => obtain ⟨_, hc, _⟩ := hk; cases hc
    | ab j => obtain ⟨_, hc, _⟩ := hk; cases hc
    | bf j => obtain ⟨_, hc, _⟩ := hk; cases hc
    | nx j => obtain ⟨_, hc, _⟩ := hk; cases hc
    | bl j => obtain ⟨_, hc, _⟩ := hk; cases hc
  · have aux : ∀ n k, Own w.heap.size newD n k → n = .g := by
      intro n k hk
      cases n with
      | g => rfl
      | left => cases hk
      | bufs => cases hk
      | ch j => obtain ⟨_, hc, _⟩ := hk; cases hc
      | on j => obtain ⟨_, hc, _⟩ := hk; cases hc
      | ab j => obtain ⟨_, hc, _⟩ := hk; cases hc
      | bf j => obtain ⟨_, hc, _⟩ := hk; cases hc
      | nx j => obtain ⟨_, hc, _⟩ := hk; cases hc
      | bl j => obtain ⟨_, hc, _⟩ := hk; cases hc
    intro n n' k h1 h2
    rw [aux n k h1, aux n' k h2]
  · intro n
    cases n with
    | g => exact blk_new w _
    | left => exact ⟨rfl, fun l => by unfold leftF newD; split <;> rfl⟩
    | bufs => exact ⟨rfl, fun l => by unfold bufF newD; split <;> rfl⟩
    | ch j => intro c hc; cases hc
    | on j => intro c hc; cases hc
    | ab j => intro c hc; cases hc
    | bf j => intro c hc; cases hc
    | nx j => intro c hc; cases hc
    | bl j => intro c hc; cases hc
end
end Go.Proofs.Ythmbhcmicebcpaa
