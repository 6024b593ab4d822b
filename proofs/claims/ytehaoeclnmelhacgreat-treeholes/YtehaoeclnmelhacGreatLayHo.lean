/-
  TreeHoles: lists, and rows of bools beside a tree.
-/
import Derived.Test.YtehaoeclnmelhacGreatTrWsS
import Derived.Test.YtehaoeclnmelhacGreatTrTrunc
namespace Go.Proofs.YtehaoeclnmelhacGreat
open Go Go.Proofs Go.RowKit Go.Shelf Go.Sort

/-- What trunc answers, and what it makes of the tree. -/
def truncS (σ : Tr) (s : List UInt8) (n : Int) : Int × Tr :=
  if n < 0 then (1, σ) else match fileE σ.nodes s with
  | (none, e) => (e, σ)
  | (some j, _) => if 67379200 < n then (17, σ) else (0, truncT σ n j)
theorem fileE_or (N : List Nd) (s : List UInt8) : (∃ j, fileE N s = (some j, 0) ∧ nodeE N s = (some j, 0) ∧ (nodeAt N j).isDir = false) ∨ ∃ e, fileE N s = (none, e) ∧ e ≠ 0 := by
  unfold fileE
  rcases nodeE_or N s with ⟨j, h⟩ | ⟨e, h, hne⟩
  · rw [h]
    rcases kind_two (nodeAt N j) with ⟨a, _⟩ | ⟨a, _⟩
    · exact .inr ⟨13, by simp [a], by decide⟩
    · exact .inl ⟨j, by simp [a], rfl, a⟩
  · rw [h]
    exact .inr ⟨e, rfl, hne⟩
theorem doo_truncS (w : World) (t : Nat) (σ : Tr) (Ls : List Lay) (hT : TrAt w t σ Ls) (hOk : ∀ x ∈ σ.nodes, x.Ok) (s s2 : ByteArray) (off m : Int) (dp : Option Addr) (dl dc : Nat) (hs : s.size ≤ 16777216) :
    Calls Tryz.prog 9 #[ptrV t, callV 9 s s2 off m (.slice dp dl dc)] w fun e w' => e = .returned (errV (truncS σ (ofS s) m).1) ∧ Step (fun k => k ∈ feet t Ls) w t w' (truncS σ (ofS s) m).2 := by
  refine (do_trunc w t (truncS σ (ofS s) m).2 Ls s s2 off m dp dl dc (truncS σ (ofS s) m).1 0 0 0 0 (fun x y _ => x = .slice none 0 0 ∧ y = .slice none 0 0) (fun k hk => hT.lt k hk) (fun _ _ _ _ h _ => h) (Hid.mk (fun W hB _ => (?_ : Calls Tryz.prog 28 #[ptrV t, callV 9 s s2 off m (.slice dp dl dc)] W fun e w' => e = .returned (errV (truncS σ (ofS s) m).1) ∧ Step (fun k => k ∈ feet t Ls) W t w' (truncS σ (ofS s) m).2).mono (fun e w' hh => ⟨none, 0, 0, none, 0, 0, hh.1, hh.2, rfl, rfl⟩)))).mono ?_
  · have hTW := hT.below rfl hB
    by_cases h0 : m < 0
    · have e0 : truncS σ (ofS s) m = (1, σ) := by unfold truncS; rw [if_pos h0]
      rw [e0]
      exact (trunc_arg W t σ Ls hTW 9 s s2 off m dp dl dc hs h0).mono (fun e w' h => ⟨h.1, Step.still hTW (fun k hk => hk) h.2⟩)
    · rcases fileE_or σ.nodes (ofS s) with ⟨j, he, hn, hjk⟩ | ⟨e, he, hne⟩
      · by_cases h1 : 67379200 < m
        · have e0 : truncS σ (ofS s) m = (17, σ) := by unfold truncS; rw [if_neg h0, he]; simp [h1]
          rw [e0]
          exact (trunc_big W t σ Ls hTW 9 s s2 off m dp dl dc hs h0 h1 j he).mono (fun e w' h => ⟨h.1, Step.still hTW (fun k hk => hk) h.2⟩)
        · have e0 : truncS σ (ofS s) m = (0, truncT σ m j) := by unfold truncS; rw [if_neg h0, he]; simp [h1]
          rw [e0]
          exact trunc_main W t σ Ls hTW hOk 9 s s2 off m dp dl dc hs j he (nodeE_lt hTW _ hn) hjk (by omega) (by omega)
      · have e0 : truncS σ (ofS s) m = (e, σ) := by unfold truncS; rw [if_neg h0, he]
        rw [e0]
        exact (trunc_no W t σ Ls hTW 9 s s2 off m dp dl dc hs h0 e he hne).mono (fun e w' h => ⟨h.1, Step.still hTW (fun k hk => hk) h.2⟩)
  · rintro e w' ⟨a1, n1, c1, a5, n5, c5, rfl, hst, h1, h2⟩
    cases h1; cases h2
    exact ⟨rfl, hst⟩

def updT (t : Nat → Bool) (n : Nat) (on : Bool) : Nat → Bool := fun m => if m = n then on else t m
def noT : Nat → Bool := fun _ => false
/-- The cells of n bools. -/
def bo (n : Nat) (f : Nat → Bool) : Array Value := ((List.range n).map (fun i => Value.bool (f i))).toArray
/-- Block s is a row of n bools. -/
def OwB (W : World) (s n : Nat) (f : Nat → Bool) : Prop := W.heap[s]? = some (.cells (bo n f) 4 (0, 0))
theorem OwB.lt {W : World} {s n : Nat} {f : Nat → Bool} (h : OwB W s n f) : s < W.heap.size := lt_of_block h
theorem bo_get {n i : Nat} {f : Nat → Bool} (h : i < n) : (bo n f)[i]? = some (.bool (f i)) := by
  unfold bo
  simp [h]
theorem bo_size (n : Nat) (f : Nat → Bool) : (bo n f).size = n := by simp [bo]
theorem OwB.cell {W : World} {s n i : Nat} {f : Nat → Bool} (h : OwB W s n f) (hi : i < n) : W.cell? ⟨s, i, none⟩ = some (.bool (f i)) := by
  rw [blk_cell h, bo_get hi]
theorem OwB.set {W : World} {s n i : Nat} {f : Nat → Bool} (h : OwB W s n f) (v : Bool) : OwB (W.setCell ⟨s, i, none⟩ (.bool v)) s n (updT f i v) := by
  unfold OwB
  rw [blk_set h]
  congr 2
  apply Array.ext_getElem?
  intro j
  rw [Array.getElem?_setIfInBounds]
  rcases Nat.lt_or_ge j n with hj | hj
  · rw [bo_get hj, bo_get hj]
    unfold updT
    by_cases e : i = j
    · subst e
      rw [if_pos rfl, if_pos (by rw [bo_size]; exact hj), if_pos rfl]
    · rw [if_neg e, if_neg (fun h => e h.symm)]
  · rw [Array.getElem?_eq_none (xs := bo n (updT f i v)) (by rw [bo_size]; exact hj), Array.getElem?_eq_none (xs := bo n f) (by rw [bo_size]; exact hj)]
    split <;> simp_all [bo_size]
theorem OwB.congr {W : World} {s n : Nat} {f f' : Nat → Bool} (h : OwB W s n f) (he : ∀ i, i < n → f i = f' i) : OwB W s n f' := by
  have e : bo n f = bo n f' := by
    unfold bo
    rw [List.map_congr_left (fun i hi => by rw [he i (List.mem_range.1 hi)])]
  unfold OwB at *
  rw [← e]
  exact h
theorem OwB.keep {W W' : World} {s n : Nat} {f : Nat → Bool} (h : OwB W s n f) (e : W'.heap[s]? = W.heap[s]?) : OwB W' s n f := e.trans h
theorem info4b : (Tryz.prog.info? 4).map (fun i => (i.zero, i.size, i.bytes)) = some (some (.bool false), 1, 1) := by kernel_rfl
theorem makeb_run (w : World) (n : Nat) (hn : n ≤ 16777216) : (Instr.makeSlice 42 (.int .i64 n) (.int .i64 n)).run Tryz.prog w = .ok (.slice (some ⟨w.heap.size, 0, none⟩) n n) (w.alloc (.cells (bo n noT) 4)) := by
  obtain ⟨i0, hi, hz0, hz1, hz2⟩ := info_parts info4b
  rw [run_makeSlice (P := Tryz.prog) w 42 4 i0 (.bool false) Tryz.underlying42 hi hz0 .i64 .i64 n n (by omega) (by omega) (by rw [hz1]; simp; omega) (by rw [hz2]; omega) (by omega)]
  have e : madeCells (Value.bool false).cells ((n : Int).toNat * i0.size) = bo n noT := by
    rw [hz1]
    apply Array.ext'
    rw [show (bo n noT).toList = List.replicate n (Value.bool false) by simp [bo, noT, List.map_const'], List.eq_replicate_iff]
    simp [madeCells, Value.cells, Nat.mod_one]
  rw [e]
  simp
/-- A tree's own memory does not turn with a cell beside it. -/
theorem OwnT.cell {w W : World} {t : Nat} {σ : Tr} {B : Nat → Prop} (h : OwnT w W t σ B) {g : Nat} (hg : B g) (hw : w.heap.size ≤ g) (i : Nat) (v : Value) : OwnT w (W.setCell ⟨g, i, none⟩ v) t σ B := by
  obtain ⟨h1, Ls, h2, h3⟩ := h
  have ho : Only (fun k => k = g) W (W.setCell ⟨g, i, none⟩ v) := (Only.refl (fun k => k = g) W).setCell (p := ⟨g, i, none⟩) (.inl rfl) _
  refine ⟨?_, Ls, h2.kept (fun k hk => ho.block k (h2.lt k hk) (fun e => (h3 k hk).2 (by rw [e]; exact hg))), h3⟩
  exact h1.trans (ho.below h1.size (fun k e => by rw [e]; exact hw))
/-- The keys. -/
abbrev hoK (p : List (Int × List Int)) : List Int := p.map (·.1)
/-- A file of at most k blocks; all that its disk has taken is the root's block and its own. -/
structure HoOk (k : Nat) (B : Int) (p : List (Int × List Int)) : Prop where
  ok : partsOk p
  full : fullP p
  len : p.length ≤ k
  room : B = 1 + roomL (hoK p)
theorem ho_none : HoOk 0 1 [] := ⟨⟨List.Pairwise.nil, fun x h => (List.not_mem_nil h).elim⟩, (fun x d h => by simp [getP] at h), Nat.le_refl _, by unfold roomL; simp [mt_none]⟩
theorem HoOk.low {k : Nat} {B : Int} {p : List (Int × List Int)} (h : HoOk k B p) (hk : k ≤ 12) : 1 ≤ B ∧ B ≤ 271 := by
  have h1 := room_bound (hoK p)
  have h2 : (hoK p).length = p.length := by simp [hoK]
  have := h.len
  rw [h.room]
  omega
def hoOff (n : Nat) : Int := (n : Int) * 1024 + 5
theorem ho_pz (n : Nat) : pzN (hoOff n) 1 = 1 := by unfold pzN hoOff; rw [if_neg (by omega)]; omega
theorem ho_pb (n : Nat) : pzB (hoOff n) 0 = n := by unfold pzB hoOff; omega
def hoP (n : Nat) (p : List (Int × List Int)) : List (Int × List Int) := wrP (hoOff n) 1 [1] p 1
theorem ho_mem (n : Nat) (p : List (Int × List Int)) (y : Int) : y ∈ hoK (hoP n p) ↔ y ∈ hoK p ++ [(n : Int)] := by
  unfold hoP hoK
  rw [wr_keys, List.mem_append]
  simp [ho_pb]
theorem ho_miss (n : Nat) (p : List (Int × List Int)) : missK (hoOff n) p 1 = if (n : Int) ∈ hoK p then [] else [(n : Int)] := by
  unfold missK hoK
  simp only [List.range_succ, List.range_zero, List.nil_append, List.map_cons, List.map_nil, ho_pb]
  split
  · next h => simp only [List.filter_cons, List.filter_nil]; simp [h]
  · next h => simp only [List.filter_cons, List.filter_nil]; simp [h]
/-- How much the count grows with a block. -/
def hoI (n : Int) (p : List (Int × List Int)) : Int := if n ∈ hoK p then 0 else 1 + (if oneB n = true ∧ (hoK p).any oneB = false then 1 else 0) + (if twoB n = true ∧ (hoK p).any twoB = false then 1 else 0) + (if twoB n = true ∧ useB (hoK p) (twoN n) = false then 1 else 0)
theorem mt_snoc (l : List Int) (n : Int) : (mtN (l ++ [n]) : Int) = mtN l + (if oneB n = true ∧ l.any oneB = false then 1 else 0) + (if twoB n = true ∧ l.any twoB = false then 1 else 0) + (if twoB n = true ∧ useB l (twoN n) = false then 1 else 0) := by
  have hu : (useN (l ++ [n]) : Int) = useN l + (if twoB n = true ∧ useB l (twoN n) = false then 1 else 0) := by
    cases h : twoB n with
    | false => rw [use_old l n (.inl h)]; simp
    | true =>
      cases h2 : useB l (twoN n) with
      | true => rw [use_old l n (.inr h2)]; simp
      | false => rw [use_new l n h h2]; simp
  unfold mtN
  rw [List.any_append, List.any_append]
  simp only [List.any_cons, List.any_nil, Bool.or_false]
  cases l.any oneB <;> cases l.any twoB <;> cases oneB n <;> cases h : twoB n <;> rw [h] at hu <;> simp at hu ⊢ <;> omega
theorem ho_fill (n : Nat) (p : List (Int × List Int)) : fillN (hoOff n) 1 p = hoI n p := by
  unfold fillN hoI
  rw [ho_pz, ho_miss]
  by_cases h : (n : Int) ∈ hoK p
  · rw [if_pos h, if_pos rfl, if_pos h]
  · rw [if_neg h, if_neg (by simp), if_neg h]
    have := mt_snoc (hoK p) n
    unfold roomL
    rw [List.length_append]
    simp only [List.length_singleton, hoK] at this ⊢
    omega
theorem ho_step {k : Nat} {B z : Int} {p : List (Int × List Int)} (h : HoOk k B p) (hk : k < 12) (n : Nat) (hn : n < 65800) : ∃ z', writeT (wsT 300 B z p) (hoOff n) [1] 1 = wsT 300 (B + hoI n p) z' (hoP n p) ∧ HoOk (k + 1) (B + hoI n p) (hoP n p) := by
  have hr := wr_room (hoOff n) 1 [1] h.ok.1
  rw [ho_pz, ho_fill] at hr
  have hok : HoOk (k + 1) (B + hoI n p) (hoP n p) := by
    refine ⟨wr_ok (by unfold hoOff; omega) h.ok 1 (by unfold hoOff; omega), wr_full (xs := [1]) (by unfold hoOff; omega) h.full (by show 1 ≤ pzN (hoOff n) 1; rw [ho_pz]; exact Nat.le_refl _), ?_, ?_⟩
    · have := (wr_len (hoOff n) 1 [1] p 1 h.ok.1).2
      have := h.len
      unfold hoP
      omega
    · rw [h.room]
      show _ = 1 + roomL ((wrP (hoOff n) 1 [1] p 1).map (·.1))
      rw [hr]
      show 1 + roomL (hoK p) + hoI n p = 1 + (roomL (hoK p) + hoI n p)
      omega
  refine ⟨max z (hoOff n + 1), ?_, hok⟩
  have h1 := h.low (by omega)
  have h2 := hok.low (by omega)
  unfold writeT wsT
  simp only [nodeAt, List.getD, List.getElem?_cons_succ, List.getElem?_cons_zero, Option.getD_some, Nd.parts, List.modify_succ_cons, List.modify_zero_cons, Nd.wr, List.length_singleton]
  have e1 : w64 (2 + 0) = 2 := by unfold w64 wrap64; omega
  have e2 : fillN (hoOff n) ((1 : Nat) : Int) p = hoI n p := ho_fill n p
  have e3 : pzN (hoOff n) ((1 : Nat) : Int) = 1 := ho_pz n
  rw [e1, e2, e3]
  have e4 : w64 (B + hoI n p) = B + hoI n p := by unfold w64 wrap64; omega
  rw [e4]
  rfl
theorem ho_good {k : Nat} {B z : Int} {p : List (Int × List Int)} (h : HoOk k B p) (hk : k ≤ 12) : ∀ x ∈ (wsT 300 B z p).nodes, x.Ok := by
  intro x hx
  simp only [wsT, List.mem_cons, List.not_mem_nil, or_false] at hx
  rcases hx with rfl | rfl
  · exact ⟨by omega, by omega, by simp [wsS]⟩
  · exact ⟨h.ok, by have := h.len; omega⟩
theorem ho_fit {k : Nat} {B z : Int} {p : List (Int × List Int)} (h : HoOk k B p) (hk : k < 12) (n : Nat) (hn : n < 65800) : fitsB 1 1 300 2 B 0 (fillN (hoOff n) 1 p) = true := by
  obtain ⟨z', _, h2⟩ := ho_step (z := z) h hk n hn
  have h3 := h2.low (by omega)
  have h4 := h.low (by omega)
  have hb : blkI 1 1 300 = 300 := by decide
  have hi : inoI 1 1 300 = 16 := by decide
  rw [ho_fill]
  unfold fitsB w64 wrap64
  rw [hb, hi]
  simp
  omega
theorem cut_none (p : List (Int × List Int)) (hp : partsOk p) : cutP 0 p = [] := by
  have : p.filter (fun q => decide (q.1 * 1024 < 0)) = [] := by
    rw [List.filter_eq_nil_iff]
    intro q hq
    have := (hp.2 q hq).1
    simp
    omega
  unfold cutP
  rw [this]
  rfl
theorem ho_cut {k : Nat} {B z : Int} {p : List (Int × List Int)} (h : HoOk k B p) (hk : k ≤ 12) : (truncS (wsT 300 B z p) (ofS wsP) 0).1 = 0 ∧ (truncS (wsT 300 B z p) (ofS wsP) 0).2.blocks = 1 := by
  have e : truncS (wsT 300 B z p) (ofS wsP) 0 = (0, truncT (wsT 300 B z p) 0 1) := by
    unfold truncS
    rw [if_neg (by omega), ws_file]
    simp
  rw [e]
  refine ⟨rfl, ?_⟩
  unfold truncT wsT
  simp only [nodeAt, List.getD, List.getElem?_cons_succ, List.getElem?_cons_zero, Option.getD_some, Nd.parts, Nd.nos]
  rw [cut_none p h.ok]
  have hl := h.low hk
  have hr := h.room
  have : roomL (([] : List (Int × List Int)).map (·.1)) = 0 := by unfold roomL; simp [mt_none]
  rw [this]
  unfold w64 wrap64
  show _ = (1 : Int)
  have : roomL (List.map (fun x => x.1) p) = B - 1 := by rw [hr]; show roomL (hoK p) = _; omega
  rw [this]
  omega
/-- The tree, and the two rows beside it. -/
structure HoW (w W : World) (t : Nat) (B z : Int) (p : List (Int × List Int)) (g5 g6 n5 : Nat) (f g : Nat → Bool) : Prop where
  own : OwnT w W t (wsT 300 B z p) (fun k => k = g5 ∨ k = g6)
  r5 : OwB W g5 n5 f
  r6 : OwB W g6 256 g
  ne : g5 ≠ g6
  lo : w.heap.size ≤ g5 ∧ w.heap.size ≤ g6
theorem HoW.set5 {w W : World} {t : Nat} {B z : Int} {p : List (Int × List Int)} {g5 g6 n5 : Nat} {f g : Nat → Bool} (h : HoW w W t B z p g5 g6 n5 f g) (i : Nat) (v : Bool) : HoW w (W.setCell ⟨g5, i, none⟩ (.bool v)) t B z p g5 g6 n5 (updT f i v) g :=
  ⟨h.own.cell (.inl rfl) h.lo.1 i _, h.r5.set v, h.r6.keep (Below.heap_setCell _ _ _ _ (fun e => h.ne e.symm)), h.ne, h.lo⟩
theorem HoW.set6 {w W : World} {t : Nat} {B z : Int} {p : List (Int × List Int)} {g5 g6 n5 : Nat} {f g : Nat → Bool} (h : HoW w W t B z p g5 g6 n5 f g) (i : Nat) (v : Bool) : HoW w (W.setCell ⟨g6, i, none⟩ (.bool v)) t B z p g5 g6 n5 f (updT g i v) :=
  ⟨h.own.cell (.inr rfl) h.lo.2 i _, h.r5.keep (Below.heap_setCell _ _ _ _ (fun e => h.ne e)), h.r6.set v, h.ne, h.lo⟩
/-- The write of a byte that was made for it. -/
theorem ho_do {w W W' : World} {t : Nat} {B z : Int} {p : List (Int × List Int)} {g5 g6 n5 : Nat} {f g : Nat → Bool} {k n : Nat} (h : HoW w W t B z p g5 g6 n5 f g) (hp : HoOk k B p) (hk : k < 12) (hn : n < 65800) (hB : Below (W.alloc (.cells #[.int .u8 1] 5)).heap.size (W.alloc (.cells #[.int .u8 1] 5)) W') (z' : Int) (hw : writeT (wsT 300 B z p) (hoOff n) [1] 1 = wsT 300 (B + hoI n p) z' (hoP n p)) :
    Calls Tryz.prog 9 #[ptrV t, callV 8 wsP ⟨#[]⟩ (hoOff n) 0 (.slice (some ⟨W.heap.size, 0, none⟩) 1 1)] W' fun e w' => e = .returned (.agg #[.int .i64 0, .slice none 0 0, .int .i64 0, .int .i64 0, .int .i64 0, .slice none 0 0, .int .i64 1]) ∧ HoW w w' t (B + hoI n p) z' (hoP n p) g5 g6 n5 f g := by
  have hO : OwnT w W' t (wsT 300 B z p) (fun k => (k = g5 ∨ k = g6) ∨ k = W.heap.size) := (h.own.box (.cells #[.int .u8 1] 5)).then hB
  have hq : W'.heap[W.heap.size]? = some (.cells #[.int .u8 1] 5 (0, 0)) := (hB.block _ (by simp)).trans (blk_new W _)
  have k5 : W'.heap[g5]? = W.heap[g5]? := (hB.block _ (by have := h.r5.lt; simp; omega)).trans (Below.heap_alloc _ _ _ h.r5.lt)
  have k6 : W'.heap[g6]? = W.heap[g6]? := (hB.block _ (by have := h.r6.lt; simp; omega)).trans (Below.heap_alloc _ _ _ h.r6.lt)
  have r5 := h.r5.keep k5
  have r6 := h.r6.keep k6
  have hX : BAt W' (some ⟨W.heap.size, 0, none⟩) 1 [1] := ⟨rfl, fun _ => ⟨_, rfl, lt_of_block hq, fun i hi => by
    obtain rfl : i = 0 := by omega
    rw [add_at, blk_cell hq]
    rfl⟩⟩
  refine (own_doQ (Q := fun e _ => e = .returned (.agg #[.int .i64 0, .slice none 0 0, .int .i64 0, .int .i64 0, .int .i64 0, .slice none 0 0, .int .i64 1])) hO (fun k hk => ?_) (σ' := wsT 300 (B + hoI n p) z' (hoP n p)) (fun Ls hT hf => ?_)).mono ?_
  · rcases hk with (rfl | rfl) | rfl
    · exact r5.lt
    · exact r6.lt
    · exact lt_of_block hq
  · have := doo_write W' t (wsT 300 B z p) Ls hT (ho_good hp (by omega)) wsP ⟨#[]⟩ (hoOff n) 0 ⟨W.heap.size, 0, none⟩ 1 1 [1] (by decide) 1 ws_file (show 1 < 2 by decide) rfl (by unfold hoOff; omega) (by decide) (by decide) (by decide) (by decide) (by unfold hoOff; omega) hX (fun hh => (hf _ hh).2 (.inr rfl)) (by show p.length ≤ 70000; have := hp.len; omega) (ho_fit (z := z) hp hk n hn)
    rw [hw] at this
    exact this
  · rintro e w' ⟨rfl, h1, h2, h3⟩
    exact ⟨rfl, ⟨h1.less (fun k hk => .inl hk), r5.keep (h2 _ (.inl (.inl rfl))), r6.keep (h2 _ (.inl (.inr rfl))), h.ne, h.lo⟩⟩
theorem HoW.box {w W : World} {t : Nat} {B z : Int} {p : List (Int × List Int)} {g5 g6 n5 : Nat} {f g : Nat → Bool} (h : HoW w W t B z p g5 g6 n5 f g) (o : Obj) : HoW w (W.alloc o) t B z p g5 g6 n5 f g :=
  ⟨(h.own.box o).less (fun _ hk => .inl hk), h.r5.keep (Below.heap_alloc _ _ _ h.r5.lt), h.r6.keep (Below.heap_alloc _ _ _ h.r6.lt), h.ne, h.lo⟩
theorem ho_used {w W : World} {t : Nat} {σ : Tr} {B : Nat → Prop} (h : OwnT w W t σ B) :
    Calls Tryz.prog 12 #[ptrV t] W fun e w' => e = .returned (.tuple #[.int .i64 σ.inodes, .int .i64 σ.blocks]) ∧ Below W.heap.size W w' := by
  obtain ⟨h1, Ls, h2, h3⟩ := h
  exact used_any W t _ _ _ _ _ _ h2.1
theorem ws_first300 : enterS (newT 1 1 300) [47, 102] newF = (0, wsT 300 1 0 []) := by kernel_rfl
/-- What the flags tell behind a block more. -/
theorem ho_any (n : Nat) (p : List (Int × List Int)) (Q : Int → Bool) : (hoK (hoP n p)).any Q = ((hoK p).any Q || Q n) := by
  rw [any_mem (ho_mem n p) Q, List.any_append]
  simp
theorem ho_use (n : Nat) (p : List (Int × List Int)) (j : Nat) : useB (hoK (hoP n p)) j = (useB (hoK p) j || (twoB n && decide (twoN n = j))) := by
  unfold useB
  rw [ho_any n p (fun x => twoB x && decide (twoN x = j))]
end Go.Proofs.YtehaoeclnmelhacGreat
namespace Go.Proofs.YtehaoeclnmelhacGreat
open Go Go.Proofs Go.RowKit Go.Shelf Go.Sort

theorem wpList_it {P : Program} {w : World} {ops : Array Oper} {l : List Oper} {a : Act} {Q : Exit → Act → World → Prop} (h : wpList P ops Q l a w) : wpList P ops Q l a w := h
theorem wpList_knownS {P : Program} {w : World} {ops : Array Oper} {rest : List Oper} {o : Oper} {a : Act} {Q : Exit → Act → World → Prop} (hw : Region.wanted o (yielded ops a.tmps) = true) (v : Value) (w' : World)
    (hrun : (execOp a.eval o).run P w = .ok (.value v) w') (h : wpList P ops Q rest (a.put o.dst v) w') : wpList P ops Q (o :: rest) a w := by
  refine BigFrame.wpList_want hw fun K hK => ?_
  unfold Oper.wp
  rw [hrun, Oper.upon_value]
  exact hK _ _ h
theorem lW_any3 (w : World) (s : ByteArray) (off : Int) (ao : Option Addr) (dl dc : Nat) : Calls Tryz.prog 14 #[.string s, .int .i64 off, .slice ao dl dc] w fun x w' => x = .returned (callV 8 s ⟨#[]⟩ off 0 (.slice ao dl dc)) ∧ Below w.heap.size w w' := by
  go_enter Tryz.func14, Tryz.ntmps14
  go_wp2
  refine bodyPost_ret (v := callV 8 s ⟨#[]⟩ off 0 (.slice ao dl dc)) ?_ rfl ⟨rfl, ?_⟩
  · simp [results, Tryz.results14, go_sem, callV]
  · exact (Below.refl _ w).alloc (Nat.le_refl _) _
theorem makeb_lit (w : World) (n : Nat) (z : Int) (hz : z = n) (hn : n ≤ 16777216) : (Instr.makeSlice 42 (.int .i64 z) (.int .i64 z)).run Tryz.prog w = .ok (.slice (some ⟨w.heap.size, 0, none⟩) n n) (w.alloc (.cells (bo n noT) 4)) := by
  subst hz
  exact makeb_run w n hn
/-- What the rows tell of the file's blocks. -/
def HoTell (p : List (Int × List Int)) (f g : Nat → Bool) : Prop := (∀ i : Nat, f i = decide ((i : Int) ∈ hoK p)) ∧ ∀ j, j < 256 → g j = useB (hoK p) j
theorem any_in {l : List Int} {n : Int} (h : n ∈ l) (Q : Int → Bool) : (l.any Q || Q n) = l.any Q := by
  cases hq : Q n with
  | false => simp
  | true =>
    have : l.any Q = true := List.any_eq_true.2 ⟨n, h, hq⟩
    rw [this]; rfl
/-- A block that was there. -/
theorem tell_old {p : List (Int × List Int)} {f g : Nat → Bool} {n : Nat} (h : HoTell p f g) (hn : (n : Int) ∈ hoK p) : HoTell (hoP n p) f g := by
  refine ⟨fun i => ?_, fun j hj => ?_⟩
  · rw [h.1 i]
    have := ho_mem n p i
    rw [List.mem_append] at this
    simp only [List.mem_singleton] at this
    by_cases hi : (i : Int) ∈ hoK p
    · rw [decide_eq_true hi, decide_eq_true (this.2 (.inl hi))]
    · rw [decide_eq_false hi, decide_eq_false (fun hh => by
        rcases this.1 hh with hh | hh
        · exact hi hh
        · exact hi (by rw [hh]; exact hn))]
  · rw [h.2 j hj]
    unfold useB
    rw [ho_any n p, any_in hn]
/-- A block that was not. -/
theorem tell_new {p : List (Int × List Int)} {f g g' : Nat → Bool} {n : Nat} (h : HoTell p f g) (hg : ∀ j, j < 256 → g' j = (g j || (twoB n && decide (twoN n = j)))) : HoTell (hoP n p) (updT f n true) g' := by
  refine ⟨fun i => ?_, fun j hj => ?_⟩
  · have := ho_mem n p i
    rw [List.mem_append] at this
    simp only [List.mem_singleton] at this
    unfold updT
    by_cases e : i = n
    · subst e
      rw [if_pos rfl, decide_eq_true (this.2 (.inr rfl))]
    · rw [if_neg e, h.1 i]
      by_cases hi : (i : Int) ∈ hoK p
      · rw [decide_eq_true hi, decide_eq_true (this.2 (.inl hi))]
      · rw [decide_eq_false hi, decide_eq_false (fun hh => by
          rcases this.1 hh with hh | hh
          · exact hi hh
          · exact e (by omega))]
  · rw [hg j hj, h.2 j hj, ho_use]
theorem g_old {g : Nat → Bool} {j : Nat} (h : true = g j) : ∀ i, i < 256 → g i = (g i || (true && decide (j = i))) := by
  intro i _
  by_cases e : j = i
  · subst e; rw [← h]; simp
  · simp [e]
theorem g_new {g : Nat → Bool} {j : Nat} : ∀ i, i < 256 → updT g j true i = (g i || (true && decide (j = i))) := by
  intro i _
  unfold updT
  by_cases e : i = j
  · subst e; simp
  · rw [if_neg e]
    have e' : ¬ j = i := fun h => e h.symm
    simp [e']
set_option maxRecDepth 100000 in
set_option maxHeartbeats 4000000 in
theorem holes_law (w : World) (ao : Option Addr) (m c : Nat) (at_ : List Int) (hO : LAt w ao m at_) : Calls Tryz.prog 4 #[.slice ao m c] w fun e w' => e = .returned (.bool true) ∧ Below w.heap.size w w' := by
  have HA := Hid.mk (alive_any w)
  by_cases c1 : (12 : Int) < m
  · go_enter Tryz.func4, Tryz.ntmps4
    go_wp2_with (go_at_call 7; refine HA.out.mono ?_; rintro e W0 ⟨rfl, hw⟩; have HB := Hid.mk hw; clear hw)
    go_ret
    exact ⟨rfl, HB.out⟩
  have HD : Hid (m ≤ 12) := Hid.mk (by omega)
  have HO := Hid.mk hO
  clear hO
  go_enter Tryz.func4, Tryz.ntmps4
  go_upto_region 6 with (first
    | (go_at_call 7; refine HA.out.mono ?_; rintro e W0 ⟨rfl, hw⟩; have HB := Hid.mk hw; clear hw)
    | (go_at_call 13; refine (lG_any _ _).mono ?_; rintro e W1 ⟨rfl, hB1⟩; have B1 := Hid.mk (HB.out.trans (hB1.mono HB.out.size)); clear hB1)
    | (go_at_call 8; refine (new_any _ 1 1 300).mono ?_; rintro e W2 ⟨rfl, hT2, hB2⟩; have O0 : Hid (OwnT w W2 (W1.heap.size + 4) (newT 1 1 300) (fun _ => False)) := Hid.mk ⟨B1.out.trans (hB2.mono B1.out.size), _, hT2, fun k hk => ⟨by simp [feet, Lay.foot] at hk; have := B1.out.size; omega, fun h => h⟩⟩; unfold ptrV; clear hT2 hB2)
    | (go_at_call 10; refine (lC_any _ _ _).mono ?_; rintro e W3 ⟨rfl, hB3⟩; have O1 := Hid.mk (O0.out.then hB3); unfold callV; clear hB3)
    | (go_at_call 9; refine (ws_do1 300 ws_first300 O1.out (fun k h => h.elim)).mono ?_; rintro e W4 ⟨rfl, hO, -, -⟩; have O2 := Hid.mk hO; unfold errV; clear hO))
  generalize W1.heap.size + 4 = t at *
  clear HB B1 O0 O1 HA
  obtain ⟨n5, hn5⟩ : ∃ n5 : Nat, n5 = 65800 := ⟨_, rfl⟩
  have HMK : Hid ((Instr.makeSlice 42 (.int .i64 65800) (.int .i64 65800)).run Tryz.prog W4 = .ok (.slice (some ⟨W4.heap.size, 0, none⟩) n5 n5) (W4.alloc (.cells (bo n5 noT) 4))) := Hid.mk (makeb_lit W4 n5 65800 (by omega) (by omega))
  have HN5 := Hid.mk hn5
  clear hn5
  go_upto_region 7 with (with_reducible refine wpList_it ?_; refine wpList_knownS (by kernel_rfl) (.slice (some ⟨W4.heap.size, 0, none⟩) n5 n5) (W4.alloc (.cells (bo n5 noT) 4)) ?_ ?_; (refine exec_mk (vl := .int .i64 65800) (vc := .int .i64 65800) rfl ?_ ?_ ?_; kernel_rfl; kernel_rfl; exact HMK.out); simp only [Act.put, List.setIfInBounds_toArray, List.set_cons_zero, List.set_cons_succ])
  obtain ⟨X, hX⟩ : ∃ X, X = W4.alloc (.cells (bo n5 noT) 4) := ⟨_, rfl⟩
  have O3 : Hid (OwnT w X t (wsT 300 1 0 []) (fun k => k = W4.heap.size)) := Hid.mk (by rw [hX]; exact (O2.out.box (.cells (bo n5 noT) 4)).less (fun k h => .inr h))
  have r5 : OwB X W4.heap.size n5 noT := by rw [hX]; exact blk_new W4 _
  have hlo5 : w.heap.size ≤ W4.heap.size := O2.out.below.size
  rw [← hX]
  generalize W4.heap.size = g5 at *
  have R5 := Hid.mk r5
  have L5 := Hid.mk hlo5
  clear hX HMK O2 r5 hlo5
  have HMK : Hid ((Instr.makeSlice 42 (.int .i64 256) (.int .i64 256)).run Tryz.prog X = .ok (.slice (some ⟨X.heap.size, 0, none⟩) 256 256) (X.alloc (.cells (bo 256 noT) 4))) := Hid.mk (makeb_lit X 256 256 (by omega) (by omega))
  go_upto_region 8 with (with_reducible refine wpList_it ?_; refine wpList_knownS (by kernel_rfl) (.slice (some ⟨X.heap.size, 0, none⟩) 256 256) (X.alloc (.cells (bo 256 noT) 4)) ?_ ?_; (refine exec_mk (vl := .int .i64 256) (vc := .int .i64 256) rfl ?_ ?_ ?_; kernel_rfl; kernel_rfl; exact HMK.out); simp only [Act.put, List.setIfInBounds_toArray, List.set_cons_zero, List.set_cons_succ])
  obtain ⟨Y, hY⟩ : ∃ Y, Y = X.alloc (.cells (bo 256 noT) 4) := ⟨_, rfl⟩
  have HW0 : Hid (HoW w Y t 1 0 [] g5 X.heap.size n5 noT noT) := Hid.mk (by
    rw [hY]
    exact ⟨O3.out.box (.cells (bo 256 noT) 4), R5.out.keep (Below.heap_alloc _ _ _ R5.out.lt), blk_new X _, by have := R5.out.lt; omega, L5.out, O3.out.below.size⟩)
  rw [← hY]
  generalize X.heap.size = g6 at *
  clear hY HMK O3 R5 L5
  go_wp2_with fail
  go_loopw [7, 8, 9, 10] (fun wv sv dv iv wr => ∃ (k : Nat) (B z : Int) (p : List (Int × List Int)) (f g : Nat → Bool), k ≤ m ∧ iv = .int .i64 k ∧ wv = .int .i64 B ∧ sv = .bool ((hoK p).any oneB) ∧ dv = .bool ((hoK p).any twoB) ∧ Hid (HoW w wr t B z p g5 g6 n5 f g ∧ HoOk k B p ∧ HoTell p f g)) (fun _ _ _ iv _ => m - (intOf iv).toNat)
  case atStart => exact ⟨0, 1, 0, [], noT, noT, by omega, rfl, rfl, rfl, rfl, Hid.mk ⟨HW0.out, ho_none, fun i => rfl, fun j _ => by simp [useB, noT]⟩⟩
  case round =>
    obtain ⟨k, B, z, p, f, g, hk, rfl, rfl, rfl, rfl, HR⟩ := hrel
    obtain ⟨s1, hs1⟩ : ∃ s1, s1 = (hoK p).any oneB := ⟨_, rfl⟩
    obtain ⟨d1, hd1⟩ : ∃ d1, d1 = (hoK p).any twoB := ⟨_, rfl⟩
    rw [← hs1, ← hd1]
    have HS1 := Hid.mk hs1
    have HD1 := Hid.mk hd1
    have HK := Hid.mk hk
    have HL := Hid.mk (HR.out.2.1.low (by have := HD.out; omega))
    clear hs1 hd1 hk HW0
    by_cases hlt : (k : Int) < (m : Int)
    · have hkm : k < m := by omega
      have HKL : Hid (k < m ∧ k < 12) := Hid.mk (by have := HD.out; omega)
      have hw1 : IntKind.i64.wrap ((k : Int) + 1) = (k : Int) + 1 := by rw [IntKind.wrap_i64]; have := HD.out; omega
      obtain ⟨b', eb, hc⟩ := (HO.out.blw HR.out.1.own.below).at k hkm
      subst eb
      obtain ⟨x, hx⟩ : ∃ x, at_.getD k 0 = x := ⟨_, rfl⟩
      rw [hx] at hc
      clear hx hkm
      by_cases x1 : x < 0
      · have PB := Hid.mk HR.out.1.own.below
        go_wp2_with fail
        go_ret
        exact ⟨rfl, PB.out⟩
      by_cases x2 : 65800 ≤ x
      · have PB := Hid.mk HR.out.1.own.below
        go_wp2_with fail
        go_ret
        exact ⟨rfl, PB.out⟩
      obtain ⟨n, rfl⟩ : ∃ n : Nat, x = n := ⟨x.toNat, by omega⟩
      have HN : Hid (n < 65800) := Hid.mk (by omega)
      have hwm : IntKind.i64.wrap ((n : Int) * 1024) = (n : Int) * 1024 := by rw [IntKind.wrap_i64]; omega
      have hwo : IntKind.i64.wrap ((n : Int) * 1024 + 5) = hoOff n := by rw [IntKind.wrap_i64]; unfold hoOff; omega
      obtain ⟨z', hz', hp'⟩ := ho_step (z := z) HR.out.2.1 HKL.out.2 n HN.out
      have HWR := Hid.mk hz'
      have HP2 := Hid.mk hp'
      clear hz' hp'
      go_upto_region 18 with (first
        | (go_at_call 14; refine (lW_any3 _ _ _ _ _ _).mono ?_; rintro e W5 ⟨rfl, hB5⟩; have HB5 := Hid.mk hB5; clear hB5; unfold callV)
        | (go_at_call 9; refine (ho_do HR.out.1 HR.out.2.1 HKL.out.2 HN.out HB5.out z' HWR.out).mono ?_; rintro e W6 ⟨rfl, hO⟩; have H6 := Hid.mk (hO.box (.cells #[.int .i64 0, .slice none 0 0, .int .i64 0, .int .i64 0, .int .i64 0, .slice none 0 0, .int .i64 1] 31)); clear hO))
      have d0 : (W6.alloc (.cells #[.int .i64 0, .slice none 0 0, .int .i64 0, .int .i64 0, .int .i64 0, .slice none 0 0, .int .i64 1] 31)).cell? ⟨W6.heap.size, 0, none⟩ = some (.int .i64 0) := by rw [blk_cell (blk_new W6 _)]; rfl
      obtain ⟨Y7, hY7⟩ : ∃ Y7, Y7 = W6.alloc (.cells #[.int .i64 0, .slice none 0 0, .int .i64 0, .int .i64 0, .int .i64 0, .slice none 0 0, .int .i64 1] 31) := ⟨_, rfl⟩
      rw [← hY7] at H6 d0 ⊢
      generalize W6.heap.size = b12 at *
      have HT := Hid.mk HR.out.2.2
      clear hY7 HR HB5 HWR hc hlt
      go_upto_region 20 with (go_at_call 11; refine (lnum_any _ _).mono ?_; rintro e Wn ⟨rfl, hw⟩; subst hw)
      clear d0
      have c5 := H6.out.r5.cell (i := n) (by have := HN.out; have := HN5.out; omega)
      have f5 := blk_free H6.out.r5 n
      rw [HT.out.1 n] at c5
      have hn0 : (n : Int) < (n5 : Int) := by have := HN.out; have := HN5.out; omega
      by_cases hin : (n : Int) ∈ hoK p
      · rw [decide_eq_true hin] at c5
        have hI : B + hoI n p = B := by unfold hoI; rw [if_pos hin]; omega
        have HIN := Hid.mk hin
        clear hin
        go_wp2_with fail
        go_roundw
        case rel => exact ⟨k + 1, B + hoI n p, z', hoP n p, f, g, by have := HKL.out; omega, by go_num, congrArg (Value.int .i64) hI.symm, congrArg Value.bool (by rw [ho_any, any_in HIN.out]; exact HS1.out), congrArg Value.bool (by rw [ho_any, any_in HIN.out]; exact HD1.out), Hid.mk ⟨H6.out, HP2.out, tell_old HT.out HIN.out⟩⟩
        case measure => have := HKL.out; simp [intOf]; omega
      · rw [decide_eq_false hin] at c5
        have HIN := Hid.mk hin
        have HH5 := Hid.mk (H6.out.set5 n true)
        have hwb : IntKind.i64.wrap (B + 1) = B + 1 := by rw [IntKind.wrap_i64]; have := HL.out; omega
        have hwb2 : IntKind.i64.wrap (B + 1 + 1) = B + 1 + 1 := by rw [IntKind.wrap_i64]; have := HL.out; omega
        have hwb3 : IntKind.i64.wrap (B + 1 + 1 + 1) = B + 1 + 1 + 1 := by rw [IntKind.wrap_i64]; have := HL.out; omega
        clear hin H6
        by_cases z1 : (n : Int) < 8
        · have e1 : oneB (n : Int) = false := decide_eq_false (by omega)
          have e2 : twoB (n : Int) = false := decide_eq_false (by omega)
          have hI : B + hoI n p = B + 1 := by unfold hoI; rw [if_neg HIN.out, e1, e2]; simp
          have E1 := Hid.mk e1
          have E2 := Hid.mk e2
          have z2 : ¬ (264 : Int) ≤ (n : Int) := by omega
          have z3 : ¬ (8 : Int) ≤ (n : Int) := by omega
          clear e1 e2
          go_wp2_with fail
          go_roundw
          case rel => exact ⟨k + 1, B + hoI n p, z', hoP n p, updT f n true, g, by have := HKL.out; omega, by go_num, congrArg (Value.int .i64) hI.symm, congrArg Value.bool (by rw [ho_any, E1.out, Bool.or_false]; exact HS1.out), congrArg Value.bool (by rw [ho_any, E2.out, Bool.or_false]; exact HD1.out), Hid.mk ⟨HH5.out, HP2.out, tell_new HT.out (fun j _ => by rw [E2.out]; simp)⟩⟩
          case measure => have := HKL.out; simp [intOf]; omega
        have z3 : (8 : Int) ≤ (n : Int) := by omega
        by_cases z4 : (n : Int) < 264
        · have e1 : oneB (n : Int) = true := decide_eq_true (by omega)
          have e2 : twoB (n : Int) = false := decide_eq_false (by omega)
          have E1 := Hid.mk e1
          have E2 := Hid.mk e2
          have z2 : ¬ (264 : Int) ≤ (n : Int) := by omega
          cases s1 with
          | false =>
            have hI : B + hoI n p = B + 1 + 1 := by unfold hoI; rw [if_neg HIN.out, e1, e2, ← HS1.out]; simp; omega
            clear e1 e2
            go_wp2_with fail
            go_roundw
            case rel => exact ⟨k + 1, B + hoI n p, z', hoP n p, updT f n true, g, by have := HKL.out; omega, by go_num, congrArg (Value.int .i64) hI.symm, congrArg Value.bool (by rw [ho_any, E1.out, Bool.or_true]), congrArg Value.bool (by rw [ho_any, E2.out, Bool.or_false]; exact HD1.out), Hid.mk ⟨HH5.out, HP2.out, tell_new HT.out (fun j _ => by rw [E2.out]; simp)⟩⟩
            case measure => have := HKL.out; simp [intOf]; omega
          | true =>
            have hI : B + hoI n p = B + 1 := by unfold hoI; rw [if_neg HIN.out, e1, e2, ← HS1.out]; simp
            clear e1 e2
            go_wp2_with fail
            go_roundw
            case rel => exact ⟨k + 1, B + hoI n p, z', hoP n p, updT f n true, g, by have := HKL.out; omega, by go_num, congrArg (Value.int .i64) hI.symm, congrArg Value.bool (by rw [ho_any, E1.out, Bool.or_true]), congrArg Value.bool (by rw [ho_any, E2.out, Bool.or_false]; exact HD1.out), Hid.mk ⟨HH5.out, HP2.out, tell_new HT.out (fun j _ => by rw [E2.out]; simp)⟩⟩
            case measure => have := HKL.out; simp [intOf]; omega
        have z2 : (264 : Int) ≤ (n : Int) := by omega
        obtain ⟨q, hq⟩ : ∃ q : Nat, q = n - 264 := ⟨_, rfl⟩
        obtain ⟨j, hj⟩ : ∃ j : Nat, j = q / 256 := ⟨_, rfl⟩
        have HNN := HN.out
        have hq1 : IntKind.i64.wrap ((n : Int) - 264) = (q : Int) := by rw [IntKind.wrap_i64]; omega
        have hq2 : Int.tdiv (q : Int) 256 = (j : Int) := by rw [Int.tdiv_eq_ediv_of_nonneg (by omega)]; omega
        have hq3 : IntKind.i64.wrap (j : Int) = (j : Int) := by rw [IntKind.wrap_i64]; omega
        have hj1 : (j : Int) < 256 := by omega
        have e1 : oneB (n : Int) = false := decide_eq_false (by omega)
        have e2 : twoB (n : Int) = true := decide_eq_true (by omega)
        have e3 : twoN (n : Int) = j := by unfold twoN; omega
        have HJ : Hid (j < 256) := Hid.mk (by omega)
        have E1 := Hid.mk e1
        have E2 := Hid.mk e2
        have E3 := Hid.mk e3
        have c6 := HH5.out.r6.cell HJ.out
        have f6 := blk_free HH5.out.r6 j
        have HH6 := Hid.mk (HH5.out.set6 j true)
        obtain ⟨gj, hgj⟩ : ∃ gj, gj = g j := ⟨_, rfl⟩
        rw [← hgj] at c6
        have hgu : gj = useB (hoK p) j := by rw [hgj]; exact HT.out.2 j HJ.out
        have HGJ := Hid.mk hgj
        have HGU := Hid.mk hgu
        clear hgj hgu hq hj HNN
        cases d1 <;> cases gj
        · have hI : B + hoI n p = B + 1 + 1 + 1 := by unfold hoI; rw [if_neg HIN.out, e1, e2, e3, ← HD1.out, ← HGU.out]; simp; omega
          clear e1 e2 e3
          go_wp2_with fail
          go_roundw
          case rel => exact ⟨k + 1, B + hoI n p, z', hoP n p, updT f n true, updT g j true, by have := HKL.out; omega, by go_num, congrArg (Value.int .i64) hI.symm, congrArg Value.bool (by rw [ho_any, E1.out, Bool.or_false]; exact HS1.out), congrArg Value.bool (by rw [ho_any, E2.out, Bool.or_true]), Hid.mk ⟨HH6.out, HP2.out, tell_new HT.out (by rw [E2.out, E3.out]; exact g_new)⟩⟩
          case measure => have := HKL.out; simp [intOf]; omega
        · have hI : B + hoI n p = B + 1 + 1 := by unfold hoI; rw [if_neg HIN.out, e1, e2, e3, ← HD1.out, ← HGU.out]; simp; omega
          clear e1 e2 e3
          go_wp2_with fail
          go_roundw
          case rel => exact ⟨k + 1, B + hoI n p, z', hoP n p, updT f n true, g, by have := HKL.out; omega, by go_num, congrArg (Value.int .i64) hI.symm, congrArg Value.bool (by rw [ho_any, E1.out, Bool.or_false]; exact HS1.out), congrArg Value.bool (by rw [ho_any, E2.out, Bool.or_true]), Hid.mk ⟨HH5.out, HP2.out, tell_new HT.out (by rw [E2.out, E3.out]; exact g_old HGJ.out)⟩⟩
          case measure => have := HKL.out; simp [intOf]; omega
        · have hI : B + hoI n p = B + 1 + 1 := by unfold hoI; rw [if_neg HIN.out, e1, e2, e3, ← HD1.out, ← HGU.out]; simp; omega
          clear e1 e2 e3
          go_wp2_with fail
          go_roundw
          case rel => exact ⟨k + 1, B + hoI n p, z', hoP n p, updT f n true, updT g j true, by have := HKL.out; omega, by go_num, congrArg (Value.int .i64) hI.symm, congrArg Value.bool (by rw [ho_any, E1.out, Bool.or_false]; exact HS1.out), congrArg Value.bool (by rw [ho_any, E2.out, Bool.or_true]), Hid.mk ⟨HH6.out, HP2.out, tell_new HT.out (by rw [E2.out, E3.out]; exact g_new)⟩⟩
          case measure => have := HKL.out; simp [intOf]; omega
        · have hI : B + hoI n p = B + 1 := by unfold hoI; rw [if_neg HIN.out, e1, e2, e3, ← HD1.out, ← HGU.out]; simp
          clear e1 e2 e3
          go_wp2_with fail
          go_roundw
          case rel => exact ⟨k + 1, B + hoI n p, z', hoP n p, updT f n true, g, by have := HKL.out; omega, by go_num, congrArg (Value.int .i64) hI.symm, congrArg Value.bool (by rw [ho_any, E1.out, Bool.or_false]; exact HS1.out), congrArg Value.bool (by rw [ho_any, E2.out, Bool.or_true]), Hid.mk ⟨HH5.out, HP2.out, tell_new HT.out (by rw [E2.out, E3.out]; exact g_old HGJ.out)⟩⟩
          case measure => have := HKL.out; simp [intOf]; omega
    · obtain rfl : k = m := by have := HK.out; omega
      have HB1 : Hid (Below w.heap.size w wr) := Hid.mk HR.out.1.own.below
      have HKM : Hid (k ≤ 12) := HD
      have OA := Hid.mk (HR.out.1.own.less (B' := fun _ => False) (fun _ h => h.elim))
      have HCUT := Hid.mk (ho_cut (z := z) HR.out.2.1 HKM.out)
      have HOK := Hid.mk (ho_good (z := z) HR.out.2.1 HKM.out)
      clear HR
      go_upto_region 35 with (first
        | (go_at_call 12; refine (ho_used OA.out).mono ?_; rintro e W5 ⟨rfl, hB5⟩; have OB := Hid.mk (OA.out.then hB5); unfold wsT; simp only []; clear hB5 OA)
        | (go_at_call 9; refine (own_do (σ' := (truncS (wsT 300 B z p) (ofS wsP) 0).2) OB.out (fun k h => h.elim) (fun Ls hT => by have := doo_truncS _ t _ Ls hT HOK.out wsP ⟨#[]⟩ 0 0 none 0 0 (by decide); rw [HCUT.out.1] at this; exact this)).mono ?_; rintro e W6 ⟨rfl, hO, -, -⟩; have OC := Hid.mk (hO.then ((Below.refl _ _).alloc (Nat.le_refl _) (.cells #[.int .i64 0, .slice none 0 0, .int .i64 0, .int .i64 0, .int .i64 0, .slice none 0 0, .int .i64 0] 31))); have q6 := Hid.mk (blk_new W6 (.cells #[.int .i64 0, .slice none 0 0, .int .i64 0, .int .i64 0, .int .i64 0, .slice none 0 0, .int .i64 0] 31)); unfold errV; clear hO OB))
      obtain ⟨Y7, hY7⟩ : ∃ Y7, Y7 = W6.alloc (.cells #[.int .i64 0, .slice none 0 0, .int .i64 0, .int .i64 0, .int .i64 0, .slice none 0 0, .int .i64 0] 31) := ⟨_, rfl⟩
      rw [← hY7] at OC q6 ⊢
      generalize W6.heap.size = b15 at *
      clear hY7
      go_upto_region 36 with (go_at_call 12; refine (ho_used OC.out).mono ?_; rintro e W8 ⟨rfl, hB8⟩; have PB := Hid.mk (OC.out.then hB8).below; have q8 := (hB8.block _ (lt_of_block q6.out)).trans q6.out; have d0 := blk_cell q8 0; simp at d0; rw [HCUT.out.2]; clear hB8 q8)
      go_wp2_with (go_at_call 11; refine (lnum_any _ _).mono ?_; rintro e Wn ⟨rfl, hw⟩; subst hw)
      go_ret
      exact ⟨rfl, PB.out⟩
end Go.Proofs.YtehaoeclnmelhacGreat
