/-
  Rows of bools; an Alloc beside them; what is given out, counted.
-/
import Derived.Test.YtjhfkcngaknbdaaAlAlive
import Derived.Test.YtjhfkcngaknbdaaAll
namespace Go.Proofs.Ytjhfkcngaknbdaa
open Go Go.Proofs Go.RowKit Go.Shelf

/-- The cells of n bools. -/
def bo (n : Nat) (f : Nat → Bool) : Array Value := ((List.range n).map (fun i => Value.bool (f i))).toArray
/-- Block s is a row of n bools. -/
def OwB (W : World) (s n : Nat) (f : Nat → Bool) : Prop := W.heap[s]? = some (.cells (bo n f) 4 (0, 0))
theorem OwB.lt {W : World} {s n : Nat} {f : Nat → Bool} (h : OwB W s n f) : s < W.heap.size := lt_of_block h
theorem bo_get {n i : Nat} {f : Nat → Bool} (h : i < n) : (bo n f)[i]? = some (.bool (f i)) := by
  unfold bo
  simp [h]
theorem bo_size (n : Nat) (f : Nat → Bool) : (bo n f).size = n := by simp [bo]
theorem OwB.cell {W : World} {s n i : Nat} {f : Nat → Bool} (h : OwB W s n f) (hi : i < n) : W.cell? ⟨s, i, none⟩ = some (.bool (f i)) := by
  rw [blk_cell h, bo_get hi]
theorem OwB.set {W : World} {s n i : Nat} {f : Nat → Bool} (h : OwB W s n f) (v : Bool) : OwB (W.setCell ⟨s, i, none⟩ (.bool v)) s n (updT f i v) := by
  unfold OwB
  rw [blk_set h]
  congr 2
  apply Array.ext_getElem?
  intro j
  rw [Array.getElem?_setIfInBounds]
  rcases Nat.lt_or_ge j n with hj | hj
  · rw [bo_get hj, bo_get hj]
    unfold updT
    by_cases e : i = j
    · subst e
      rw [if_pos rfl, if_pos (by rw [bo_size]; exact hj), if_pos rfl]
    · rw [if_neg e, if_neg (fun h => e h.symm)]
  · rw [Array.getElem?_eq_none (xs := bo n (updT f i v)) (by rw [bo_size]; exact hj), Array.getElem?_eq_none (xs := bo n f) (by rw [bo_size]; exact hj)]
    split <;> simp_all [bo_size]
theorem OwB.congr {W : World} {s n : Nat} {f f' : Nat → Bool} (h : OwB W s n f) (he : ∀ i, i < n → f i = f' i) : OwB W s n f' := by
  have e : bo n f = bo n f' := by
    unfold bo
    rw [List.map_congr_left (fun i hi => by rw [he i (List.mem_range.1 hi)])]
  unfold OwB at *
  rw [← e]
  exact h
theorem OwB.keep {W W' : World} {s n : Nat} {f : Nat → Bool} (h : OwB W s n f) (e : W'.heap[s]? = W.heap[s]?) : OwB W' s n f := e.trans h
theorem bo_not {n : Nat} {f : Nat → Bool} : ∀ v ∈ (bo n f).toList, ∀ x, v ≠ .int .u8 x := by
  intro v hv x
  simp [bo] at hv
  obtain ⟨i, _, rfl⟩ := hv
  simp
theorem info4b : (Try.prog.info? 4).map (fun i => (i.zero, i.size, i.bytes)) = some (some (.bool false), 1, 1) := by kernel_rfl
theorem makeb_run (w : World) (n : Nat) (hn : n ≤ 16777216) : (Instr.makeSlice 44 (.int .i64 n) (.int .i64 n)).run Try.prog w = .ok (.slice (some ⟨w.heap.size, 0, none⟩) n n) (w.alloc (.cells (bo n noT) 4)) := by
  obtain ⟨i0, hi, hz0, hz1, hz2⟩ := info_parts info4b
  rw [run_makeSlice (P := Try.prog) w 44 4 i0 (.bool false) Try.underlying44 hi hz0 .i64 .i64 n n (by omega) (by omega) (by rw [hz1]; simp; omega) (by rw [hz2]; omega) (by omega)]
  have e : madeCells (Value.bool false).cells ((n : Int).toNat * i0.size) = bo n noT := by
    rw [hz1]
    apply Array.ext'
    rw [show (bo n noT).toList = List.replicate n (Value.bool false) by simp [bo, noT, List.map_const'], List.eq_replicate_iff]
    simp [madeCells, Value.cells, Nat.mod_one]
  rw [e]
  simp
/-- A row of bytes is none of those other cells. -/
theorem RwAt.not_row {W : World} {b L S k l c j : Nat} {t : Nat → Bool} {ao : Option Addr} {xs : List Int} (h : RwAt W b L S t k ao l c xs) {cs : Array Value} {T0 : TypeId} {fr : Nat × Nat} (hj : W.heap[j]? = some (.cells cs T0 fr)) (hv : ∀ v ∈ cs.toList, ∀ x, v ≠ .int .u8 x) (hL : 0 < L) : ∀ a, ao = some a → a.block ≠ j := by
  rintro a ea rfl
  obtain ⟨a', e', _, hc⟩ := h.bat.2 hL
  rw [ea] at e'
  cases e'
  have h0 := hc 0 hL
  have : (a.add 0).block = a.block := add_block a 0
  unfold World.cell? at h0
  rw [this, hj] at h0
  revert h0
  cases (a.add 0).spot with
  | none =>
    simp only
    intro h0
    have hm := Array.mem_of_getElem? h0
    exact hv _ (by simpa using hm) _ rfl
  | some s => simp
theorem PlAt.side {W W' : World} {b off G S L j : Nat} {t : Nat → Bool} (h : PlAt W b off G S L t) (ho : Only (fun k => k = j) W W') (hjb : j ≠ b) {cs : Array Value} {T0 : TypeId} {fr : Nat × Nat} (hj : W.heap[j]? = some (.cells cs T0 fr)) (hv : ∀ v ∈ cs.toList, ∀ x, v ≠ .int .u8 x) (hL : 0 < G → 0 < L) : PlAt W' b off G S L t := by
  obtain ⟨c0, T, e, hs⟩ := h.blk
  have hb : W'.heap[b]? = W.heap[b]? := ho.block b h.lt (fun e => hjb e.symm)
  refine ⟨h.g8, ⟨c0, T, hb.trans e, hs⟩, (World.cell?_of_block (w := W) hb).trans h.c0, (World.cell?_of_block (w := W) hb).trans h.c1, fun k hk => ?_, fun k hk => by (obtain ⟨ao, l, c, h1⟩ := h.all k hk; exact ⟨ao, l, c, (World.cell?_of_block (w := W) hb).trans h1⟩)⟩
  obtain ⟨ao, l, c, xs, h1, h2⟩ := h.rows k hk
  have hx := h2.not_row hj hv (hL (by omega))
  exact ⟨ao, l, c, xs, (World.cell?_of_block (w := W) hb).trans h1, ⟨h2.bat.only ho (fun a ea _ => hx a ea), h2.len, h2.row, h2.none, fun a ea => ⟨(h2.apart a ea).1, Nat.lt_of_lt_of_le (h2.apart a ea).2 ho.size⟩⟩⟩
theorem AlAt.side {W W' : World} {b g i d j : Nat} {ti td : Nat → Bool} (h : AlAt W b g i d ti td) (ho : Only (fun k => k = j) W W') (hjb : j ≠ b) {cs : Array Value} {T0 : TypeId} {fr : Nat × Nat} (hj : W.heap[j]? = some (.cells cs T0 fr)) (hv : ∀ v ∈ cs.toList, ∀ x, v ≠ .int .u8 x) : AlAt W' b g i d ti td := by
  have hb : W'.heap[b]? = W.heap[b]? := ho.block b h.lt (fun e => hjb e.symm)
  obtain ⟨f1, f2, _⟩ := h.fits
  refine ⟨(World.cell?_of_block (w := W) hb).trans h.c0, (World.cell?_of_block (w := W) hb).trans h.c1, (World.cell?_of_block (w := W) hb).trans h.c2, h.ino.side ho hjb hj hv (fun _ => by omega), h.dat.side ho hjb hj hv (fun hg => ?_), h.ok, by (obtain ⟨cs, T, e, hs⟩ := h.sz; exact ⟨cs, T, hb.trans e, hs⟩)⟩
  have h1 := f2.p hg
  have h2 := f2.l
  omega
theorem freeN_succ (t : Nat → Bool) (N : Nat) : freeN t (N + 1) = freeN t N + (if t N = true then 0 else 1) := by
  unfold freeN
  rw [List.range_succ, List.countP_append]
  cases h : t N <;> simp [h]
theorem freeN_upd {t : Nat → Bool} {n : Nat} (N : Nat) (h : t n = false) : freeN (updT t n true) N + (if n < N then 1 else 0) = freeN t N := by
  induction N with
  | zero => simp [freeN]
  | succ N ih =>
    rw [freeN_succ, freeN_succ]
    generalize hx : freeN (updT t n true) N = x at *
    by_cases e : N = n
    · have hu : updT t n true N = true := by unfold updT; rw [if_pos e]
      have ht : t N = false := by rw [e]; exact h
      have e1 : ¬ n < N := by omega
      have e2 : n < N + 1 := by omega
      simp only [hu, ht, e1, e2, if_true, if_false, Bool.false_eq_true] at ih ⊢
      omega
    · have hu : updT t n true N = t N := by unfold updT; rw [if_neg e]
      rw [hu]
      by_cases hn : n < N
      · have e2 : n < N + 1 := by omega
        simp only [hn, e2, if_true] at ih ⊢
        omega
      · have e2 : ¬ n < N + 1 := by omega
        simp only [hn, e2, if_false] at ih ⊢
        omega
theorem freeN_back {t : Nat → Bool} {n : Nat} (N : Nat) (hn : n < N) (h : t n = true) : freeN (updT t n false) N = freeN t N + 1 := by
  have h1 := freeN_upd (t := updT t n false) (n := n) N (by simp [updT])
  rw [if_pos hn] at h1
  have e : updT (updT t n false) n true = t := by
    funext m
    unfold updT
    by_cases hm : m = n
    · rw [if_pos hm, hm, h]
    · rw [if_neg hm, if_neg hm]
  rw [e] at h1
  omega
theorem freeN_all {t : Nat → Bool} {N : Nat} (h : ∀ n, n < N → t n = true) : freeN t N = 0 := by
  unfold freeN
  rw [List.countP_eq_zero]
  intro n hn
  rw [h n (List.mem_range.1 hn)]
  simp
theorem freeN_none {t : Nat → Bool} {N : Nat} (h : freeN t N = 0) : ∀ n, n < N → t n = true := by
  intro n hn
  unfold freeN at h
  rw [List.countP_eq_zero] at h
  have := h n (List.mem_range.2 hn)
  simpa using this
theorem freeN_no (N : Nat) : freeN noT N = N := by
  unfold freeN noT
  simp
/-- While something is free something is found. -/
theorem next_ex2 {t : Nat → Bool} {N base : Nat} (h : 0 < freeN t N) : ∃ n, nextN t N base = some n ∧ n < N ∧ t n = false := by
  cases hn : nextN t N base with
  | none => have := freeN_all (next_not hn); omega
  | some n => exact ⟨n, rfl, (next_is hn).1, (next_is hn).2⟩
theorem next_full {t : Nat → Bool} {N base : Nat} (h : freeN t N = 0) : nextN t N base = none := by
  cases hn : nextN t N base with
  | none => rfl
  | some n =>
    have h1 := next_is hn
    rw [freeN_none h n h1.1] at h1
    cases h1.2
/-- A data block's block is that data block's. -/
theorem do_da {G I D n : Int} (hg : good G I D = true) (h0 : 0 ≤ n) (h1 : n < G * D) : doB G I D (daI G I D n) = true ∧ doI G I D (daI G I D n) = n := by
  have hb := good_iff.1 hg
  obtain ⟨e, e1, e2⟩ := divmod_of n D (by omega)
  have hq0 : 0 ≤ n / D := div_nonneg (by omega) h0
  have hq1 : n / D < G := div_lt (by omega) h1
  rw [(da_yes hg h0 h1).2]
  have := do_at (b := 1 + n / D * (1 + I + D) + 1 + I + n % D) (k := n / D) hg hq0 hq1 (by omega) (by omega)
  refine ⟨this.1, ?_⟩
  rw [this.2]
  omega
end Go.Proofs.Ytjhfkcngaknbdaa
