/-
  What the small calls of package disk do, each for every disk: Blocks, Dead, Start, Cut, powered, has, bytes.Clone, Image, New.
-/
import Derived.Test.YtmbhjheoomlggaaDkBase
import Derived.KernelRfl
namespace Go.Proofs.Ytmbhjheoomlggaa
open Go Go.Proofs Go.RowKit
namespace Dk
theorem info41 : (Try.prog.info? 81).map (fun i => (i.zero, i.size, i.bytes)) = some (some (.agg #[.int .i64 0, .slice none 0 0]), 2, 32) := by kernel_rfl
set_option maxRecDepth 100000 in
set_option maxHeartbeats 400000 in
theorem clone_any (a : Addr) (n c : Nat) (xs : List Int) (w : World) (hx : xs.length = n) (hbig : n ≤ 140737488355328) (hc : ∀ i, i < n → w.cell? (a.add i) = some (.int .u8 (xs.getD i 0))) :
    Calls Try.prog 32 #[.slice (some a) n c] w fun e w' => ∃ v', e = .returned v' ∧ w'.ownsRow w.heap.size 5 1 v' n (By xs) ∧ v' ≠ .slice none 0 0 ∧ Below w.heap.size w w' := by
  obtain ⟨i0, hi, hz0, hz1, hz2⟩ := info_parts info5
  have q27 : ∀ (w : World) (a : Option Addr) (n c n' c' : Nat), (binOp .eql 35 (.slice a n c) (.slice none n' c')).run Try.prog w = .ok (.bool a.isNone) w := fun w a n c n' c' => Lib.run_eql_slice_nil w _ _ a n c n' c' Try.underlying35
  have A : Hid (∀ i, i < n → w.cell? (a.add i) = some (.int .u8 (xs.getD i 0))) := hc
  clear hc
  go_enter Try.func32, Try.ntmps32
  go_wp2_with (at_builtin; refine wpList_append_own _ rfl _ _ 35 rfl w.heap.size 5 i0 (.int .u8 0) 1 1 Try.underlying35 hi hz0 hz1 hz2 rfl (by decide) _ _ _ rfl (World.ownsRow_made w #[] 0 (Nat.le_refl _) (Nat.zero_le _) rfl) a n c (By xs) rfl ?qc1 ?qc2 ?qc3 ?qc4 ?qc5 ?qc6 ?_)
  case qc1 => simp [By_length]; omega
  case qc2 =>
    intro j u hj
    have hjn : j < n := by
      have := (List.getElem?_eq_some_iff.1 hj).1
      rw [By_length] at this
      omega
    refine Lib.cell?_alloc_some _ ?_
    rw [A.out j hjn]
    rw [By_get xs j (by omega)] at hj
    exact hj
  case qc3 => exact By_one xs
  case qc4 => unfold maxLen; omega
  case qc5 => omega
  case qc6 => simp
  intro v' w1 hown hgrow hnil
  go_wp2
  go_ret
  refine ⟨v', rfl, by simpa using hown, ?_, ?_⟩
  · first | exact hnil | (intro e; exact absurd (hnil.1 e).1 (by simp))
  · exact ((Below.refl _ w).alloc (Nat.le_refl _) _).grown hgrow (by simp) (by intro k hk; simp [Value.ownBlock] at hk; omega)
set_option maxRecDepth 100000 in
set_option maxHeartbeats 400000 in
theorem blocks_any (F : Nat → Prop) (w : World) (d : Nat) (s : DS) (h : DiskAt F w d s) (hn : s.img.length ≤ 20480000) :
    Calls Try.prog 45 #[.pointer (some ⟨d, 0, none⟩)] w fun e w' => e = .returned (.int .i64 (s.img.length / 1024 : Nat)) ∧ w' = w := by
  obtain ⟨h0, bi, lv, h1, h2⟩ := h
  have hc := blk_cell h1 0
  simp at hc
  clear h1 h2
  go_enter Try.func45, Try.ntmps45
  go_wp2
  go_ret
  exact ⟨by simp, rfl⟩
set_option maxRecDepth 100000 in
theorem DiskAt.flags {F : Nat → Prop} {w w' : World} {d : Nat} {s s' : DS} (h : DiskAt F w d s) (hi : s'.img = s.img) (hl : s'.log = s.log)
    (hs : ∀ bi lv, w.heap[d]? = some (.cells #[.slice (some ⟨bi, 0, none⟩) s.img.length s.img.length, lv, .bool s.dead, .bool s.cut, .int .i64 s.left] 55 (0, 0)) →
      w'.heap[d]? = some (.cells #[.slice (some ⟨bi, 0, none⟩) s.img.length s.img.length, lv, .bool s'.dead, .bool s'.cut, .int .i64 s'.left] 55 (0, 0)))
    (ho : Only (fun k => k = d) w w') : DiskAt F w' d s' := by
  obtain ⟨h0, bi, lv, h1, h2⟩ := h
  refine ⟨h0, bi, lv, by rw [hi]; exact hs bi lv h1, ?_⟩
  have h2' : DiskRest (fun k => (F k ∧ k ≠ d) ∧ k < w.heap.size) w bi lv s := h2.mono (fun k hs e => ⟨e, hs.lt⟩)
  have h3 := (h2'.at (W' := w') (fun k e => ho.block k e.2 e.1.2)).mono (H := fun k => F k ∧ k ≠ d) (fun k _ e => e.1)
  exact ⟨h3.1, by rw [hi]; exact h3.2.1, by rw [hl]; exact h3.2.2⟩
set_option maxRecDepth 100000 in
set_option maxHeartbeats 400000 in
theorem start_any (F : Nat → Prop) (w : World) (d : Nat) (s : DS) (h : DiskAt F w d s) :
    Calls Try.prog 21 #[.pointer (some ⟨d, 0, none⟩)] w fun e w' => e = .returned (.tuple #[]) ∧ DiskAt F w' d { s with dead := false, cut := false, left := 0 } ∧ Only F w w' := by
  have h' := h
  obtain ⟨h0, bi, lv, h1, h2⟩ := h'
  have hc2 := blk_cell h1 2
  have hc3 := blk_cell h1 3
  have hc4 := blk_cell h1 4
  have hf2 := blk_free h1 2
  have hf3 := blk_free h1 3
  have hf4 := blk_free h1 4
  simp at hc2 hc3 hc4
  clear h1 h2
  have H : Hid (DiskAt F w d s) := h
  clear h
  go_enter Try.func21, Try.ntmps21
  go_wp2
  go_end0
  refine ⟨rfl, H.out.flags rfl rfl (fun bi lv hb => ?_) ?_, ?_⟩
  · exact (blk_set (blk_set (blk_set hb)))
  · exact (((Only.refl (fun k => k = d) w).setCell (p := ⟨d, 2, none⟩) (.inl rfl) _).setCell (p := ⟨d, 3, none⟩) (.inl rfl) _).setCell (p := ⟨d, 4, none⟩) (.inl rfl) _
  · exact (((Only.refl _ w).setCell (p := ⟨d, 2, none⟩) (.inl h0) _).setCell (p := ⟨d, 3, none⟩) (.inl h0) _).setCell (p := ⟨d, 4, none⟩) (.inl h0) _
set_option maxRecDepth 100000 in
set_option maxHeartbeats 400000 in
theorem cut_any (F : Nat → Prop) (w : World) (d : Nat) (s : DS) (h : DiskAt F w d s) (n : Int) :
    Calls Try.prog 20 #[.pointer (some ⟨d, 0, none⟩), .int .i64 n] w fun e w' => e = .returned (.tuple #[]) ∧ DiskAt F w' d { s with cut := decide (0 ≤ n), left := max n 0 } ∧ Only F w w' := by
  have h' := h
  obtain ⟨h0, bi, lv, h1, h2⟩ := h'
  have hc3 := blk_cell h1 3
  have hc4 := blk_cell h1 4
  have hf3 := blk_free h1 3
  have hf4 := blk_free h1 4
  simp at hc3 hc4
  clear h1 h2
  have H : Hid (DiskAt F w d s) := h
  clear h
  rcases Int.lt_or_le n 0 with hn | hn
  · have e1 : decide (0 ≤ n) = false := by simp; omega
    have e2 : max n 0 = 0 := by omega
    rw [e1, e2]
    clear e1 e2
    go_enter Try.func20, Try.ntmps20
    go_wp2
    go_end0
    refine ⟨rfl, H.out.flags rfl rfl (fun bi lv hb => ?_) ?_, ?_⟩
    · have e1 : decide (0 ≤ n) = false := by simp; omega
      rw [e1]
      exact (blk_set (blk_set hb))
    · exact ((Only.refl (fun k => k = d) w).setCell (p := ⟨d, 3, none⟩) (.inl rfl) _).setCell (p := ⟨d, 4, none⟩) (.inl rfl) _
    · exact ((Only.refl F w).setCell (p := ⟨d, 3, none⟩) (.inl h0) _).setCell (p := ⟨d, 4, none⟩) (.inl h0) _
  · have e1 : decide (0 ≤ n) = true := by simp; omega
    have e2 : max n 0 = n := by omega
    rw [e1, e2]
    clear e1 e2
    go_enter Try.func20, Try.ntmps20
    go_wp2
    go_end0
    refine ⟨rfl, H.out.flags rfl rfl (fun bi lv hb => ?_) ?_, ?_⟩
    · exact (blk_set (blk_set hb))
    · exact ((Only.refl (fun k => k = d) w).setCell (p := ⟨d, 3, none⟩) (.inl rfl) _).setCell (p := ⟨d, 4, none⟩) (.inl rfl) _
    · exact ((Only.refl F w).setCell (p := ⟨d, 3, none⟩) (.inl h0) _).setCell (p := ⟨d, 4, none⟩) (.inl h0) _
/-- One more sector's power. -/
def pow (s : DS) : Bool × DS :=
  if s.cut = false then (true, s) else if s.left = 0 then (false, { s with dead := true }) else (true, { s with left := s.left - 1 })
set_option maxRecDepth 100000 in
set_option maxHeartbeats 400000 in
theorem powered_any (F : Nat → Prop) (w : World) (d : Nat) (s : DS) (h : DiskAt F w d s) (hl0 : 0 ≤ s.left) (hl1 : s.left ≤ 9223372036854775807) :
    Calls Try.prog 35 #[.pointer (some ⟨d, 0, none⟩)] w fun e w' => e = .returned (.bool (pow s).1) ∧ DiskAt F w' d (pow s).2 ∧ Only F w w' := by
  have h' := h
  obtain ⟨h0, bi, lv, h1, h2⟩ := h'
  have hc2 := blk_cell h1 2
  have hc3 := blk_cell h1 3
  have hc4 := blk_cell h1 4
  have hf2 := blk_free h1 2
  have hf4 := blk_free h1 4
  simp at hc2 hc3 hc4
  clear h1 h2
  have H : Hid (DiskAt F w d s) := h
  clear h
  cases hcut : s.cut with
  | false =>
    have e : pow s = (true, s) := by simp [pow, hcut]
    rw [e]
    rw [hcut] at hc3
    clear e hcut
    go_enter Try.func35, Try.ntmps35
    go_wp2
    go_ret
    exact ⟨rfl, H.out, Only.refl _ _⟩
  | true =>
    rw [hcut] at hc3
    by_cases hz : s.left = 0
    · have e : pow s = (false, { s with dead := true }) := by simp [pow, hcut, hz]
      rw [e]
      clear e hcut
      have hz' : (s.left == 0) = true := by simp [hz]
      clear hz
      go_enter Try.func35, Try.ntmps35
      go_wp2
      go_ret
      refine ⟨rfl, H.out.flags rfl rfl (fun bi lv hb => ?_) ?_, ?_⟩
      · exact blk_set hb
      · exact (Only.refl (fun k => k = d) w).setCell (p := ⟨d, 2, none⟩) (.inl rfl) _
      · exact (Only.refl F w).setCell (p := ⟨d, 2, none⟩) (.inl h0) _
    · have e : pow s = (true, { s with left := s.left - 1 }) := by simp [pow, hcut, hz]
      rw [e]
      clear e hcut
      have hz' : (s.left == 0) = false := by simp [hz]
      clear hz
      go_enter Try.func35, Try.ntmps35
      go_wp2
      go_ret
      refine ⟨rfl, H.out.flags rfl rfl (fun bi lv hb => ?_) ?_, ?_⟩
      · exact blk_set hb
      · exact (Only.refl (fun k => k = d) w).setCell (p := ⟨d, 4, none⟩) (.inl rfl) _
      · exact (Only.refl F w).setCell (p := ⟨d, 4, none⟩) (.inl h0) _
def hasB (s : DS) (block : Int) : Bool := decide (0 ≤ block ∧ block < (s.img.length / 1024 : Nat))
set_option maxRecDepth 100000 in
set_option maxHeartbeats 400000 in
theorem has_any (F : Nat → Prop) (w : World) (d : Nat) (s : DS) (h : DiskAt F w d s) (hn : s.img.length ≤ 20480000) (block : Int) :
    Calls Try.prog 33 #[.pointer (some ⟨d, 0, none⟩), .int .i64 block] w fun e w' => e = .returned (.bool (hasB s block)) ∧ w' = w := by
  have HB : Hid (Calls Try.prog 45 #[.pointer (some ⟨d, 0, none⟩)] w fun e w' => e = .returned (.int .i64 (s.img.length / 1024 : Nat)) ∧ w' = w) := blocks_any F w d s h hn
  clear h
  by_cases h0 : 0 ≤ block
  · have e : hasB s block = decide (block < (s.img.length / 1024 : Nat)) := by simp [hasB, h0]
    rw [e]
    clear e
    generalize s.img.length / 1024 = q at *
    go_enter Try.func33, Try.ntmps33
    go_wp2_with (go_at_call 45; refine HB.out.mono ?_; rintro e w' ⟨rfl, rfl⟩)
    go_ret
    exact ⟨rfl, rfl⟩
  · have e : hasB s block = false := by simp [hasB, h0]
    rw [e]
    clear e
    go_enter Try.func33, Try.ntmps33
    go_wp2_with (go_at_call 45; refine HB.out.mono ?_; rintro e w' ⟨rfl, rfl⟩)
    go_ret
    exact ⟨rfl, rfl⟩
set_option maxRecDepth 100000 in
set_option maxHeartbeats 400000 in
theorem clone_nil (n c : Nat) (w : World) :
    Calls Try.prog 32 #[.slice none n c] w fun e w' => e = .returned (.slice none 0 0) ∧ w' = w := by
  have q27 : ∀ (w : World) (a : Option Addr) (n c n' c' : Nat), (binOp .eql 35 (.slice a n c) (.slice none n' c')).run Try.prog w = .ok (.bool a.isNone) w := fun w a n c n' c' => Lib.run_eql_slice_nil w _ _ a n c n' c' Try.underlying35
  go_enter Try.func32, Try.ntmps32
  go_wp2
  go_ret
  exact ⟨rfl, rfl⟩
set_option maxRecDepth 100000 in
set_option maxHeartbeats 400000 in
theorem image_any (F : Nat → Prop) (w : World) (d : Nat) (s : DS) (h : DiskAt F w d s) (hn : s.img.length ≤ 20480000) :
    Calls Try.prog 25 #[.pointer (some ⟨d, 0, none⟩)] w fun e w' => ∃ v', e = .returned v' ∧ w'.ownsRow w.heap.size 5 1 v' s.img.length (By s.img) ∧ v' ≠ .slice none 0 0 ∧ Below w.heap.size w w' := by
  obtain ⟨h0, bi, lv, h1, h2⟩ := h
  have hc := blk_cell h1 0
  simp at hc
  have HB : Hid (Calls Try.prog 32 #[.slice (some ⟨bi, 0, none⟩) s.img.length s.img.length] w fun e w' => ∃ v', e = .returned v' ∧ w'.ownsRow w.heap.size 5 1 v' s.img.length (By s.img) ∧ v' ≠ .slice none 0 0 ∧ Below w.heap.size w w') :=
    clone_any ⟨bi, 0, none⟩ _ _ s.img w rfl (by omega) (fun i hi => by have := bytes_at h2.2.1 0 i (by omega); rwa [Nat.zero_add] at this)
  clear h1 h2
  go_enter Try.func25, Try.ntmps25
  go_wp2_with (go_at_call 32; refine HB.out.mono ?_; rintro e w' ⟨v', rfl, hown, hnn, hb⟩)
  go_ret
  exact ⟨v', rfl, hown, hnn, hb⟩
def capB (n : Int) : Nat := (min (max n 0) 20000).toNat
set_option maxRecDepth 100000 in
set_option maxHeartbeats 400000 in
theorem new_any (w : World) (n : Int) :
    Calls Try.prog 9 #[.int .i64 n] w fun e w' => ∃ d, e = .returned (.pointer (some ⟨d, 0, none⟩)) ∧ w.heap.size ≤ d ∧
      DiskAt (fun k => w.heap.size ≤ k) w' d ⟨List.replicate (1024 * capB n) 0, [], false, false, 0⟩ ∧ Below w.heap.size w w' := by
  obtain ⟨i0, hi, hz0, hz1, hz2⟩ := info5p
  have hq : capB n ≤ 20000 := by unfold capB; omega
  have hq2 : ((capB n : Nat) : Int) = min (max n 0) 20000 := by unfold capB; omega
  generalize capB n = q at *
  have fin : ∀ w1 : World, w1.ownsRow w.heap.size 5 1 (.slice (some ⟨w.heap.size, 0, none⟩) (1024 * q) (1024 * q)) (1024 * q) (madeCells #[.int .u8 0] (1024 * q)).toList → w.grownBy w1 none →
      DiskAt (fun k => w.heap.size ≤ k) (w1.alloc (.cells #[.slice (some ⟨w.heap.size, 0, none⟩) (1024 * q) (1024 * q), .slice none 0 0, .bool false, .bool false, .int .i64 0] 55)) w1.heap.size ⟨List.replicate (1024 * q) 0, [], false, false, 0⟩ ∧
      Below w.heap.size w (w1.alloc (.cells #[.slice (some ⟨w.heap.size, 0, none⟩) (1024 * q) (1024 * q), .slice none 0 0, .bool false, .bool false, .int .i64 0] 55)) ∧ w.heap.size ≤ w1.heap.size := by
    intro w1 hown hg
    obtain ⟨_, hb⟩ := owns_full hown
    rw [toList_madeCells_one] at hb
    have hlt := lt_of_block hb
    refine ⟨⟨hg.size, w.heap.size, .slice none 0 0, ?_, ⟨Nat.le_refl _, by omega⟩, ?_, ?_⟩, ?_, hg.size⟩
    · rw [blk_new]; simp
    · rw [Below.heap_alloc _ _ _ hlt, hb]; simp [By]
    · exact ⟨[], World.ownsRow_nil _ _ _ _, by simp [Value.ownBlock], trivial⟩
    · exact ((Below.refl _ w).grown hg (Nat.le_refl _) (by simp)).alloc hg.size _
  have FIN := fin
  have FINH : Hid (∀ w1 : World, w1.ownsRow w.heap.size 5 1 (.slice (some ⟨w.heap.size, 0, none⟩) (1024 * q) (1024 * q)) (1024 * q) (madeCells #[.int .u8 0] (1024 * q)).toList → w.grownBy w1 none →
      DiskAt (fun k => w.heap.size ≤ k) (w1.alloc (.cells #[.slice (some ⟨w.heap.size, 0, none⟩) (1024 * q) (1024 * q), .slice none 0 0, .bool false, .bool false, .int .i64 0] 55)) w1.heap.size ⟨List.replicate (1024 * q) 0, [], false, false, 0⟩ ∧
      Below w.heap.size w (w1.alloc (.cells #[.slice (some ⟨w.heap.size, 0, none⟩) (1024 * q) (1024 * q), .slice none 0 0, .bool false, .bool false, .int .i64 0] 55)) ∧ w.heap.size ≤ w1.heap.size) := fin
  clear fin FIN
  rcases Int.lt_or_le n 0 with hn | hn
  all_goals rcases Int.lt_or_le 20000 n with hn2 | hn2
  all_goals try omega
  all_goals have HQ : Hid ((q : Int) = min (max n 0) 20000) := hq2
  all_goals clear hq2
  all_goals go_enter Try.func9, Try.ntmps9
  all_goals go_wp2_with (at_make; refine wpList_make_full _ rfl _ _ 35 rfl w.heap.size 5 i0 (.int .u8 0) 1 Try.underlying35 hi hz0 hz1 .i64 .i64 _ _ (1024 * q) rfl rfl (by have := HQ.out; omega) (by have := HQ.out; omega) (by rw [hz2]; omega) (by unfold maxLen; omega) (Nat.le_refl _) ?_; intro w1 hown hg; rw [Nat.mul_one] at hown; have hz := FINH.out w1 hown hg; have HZ : Hid _ := hz; clear hown hg hz)
  all_goals go_ret
  all_goals exact ⟨_, rfl, HZ.out.2.2, HZ.out.1, HZ.out.2.1⟩
end Dk
end Go.Proofs.Ytmbhjheoomlggaa
