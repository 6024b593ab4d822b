/-
  Sets of ints, as they lie: a map whose elements have no parts.
-/
import Derived.Test.YthmbhcmicebcpaaTrMap
import Derived.Test.YthmbhcmicebcpaaAll
import Derived.Shelf.SlIterI.Nil
namespace Go.Proofs.Ythmbhcmicebcpaa
open Go Go.Proofs Go.RowKit Go.Shelf
open Go.ChangeMaps (setBlock)
/-- A number into a rising list, once. -/
def insS (x : Int) : List Int → List Int
  | [] => [x]
  | y :: r => if x < y then x :: y :: r else if x = y then y :: r else y :: insS x r
def delS (x : Int) (S : List Int) : List Int := S.filter (fun y => y != x)
/-- Strictly rising, all of them ints. -/
def Rise (S : List Int) : Prop := S.Pairwise (· < ·) ∧ ∀ x ∈ S, (Lit.int .i64 x).wf = true
theorem mem_ins {x y : Int} {S : List Int} : y ∈ insS x S ↔ y = x ∨ y ∈ S := by
  induction S with
  | nil => simp [insS]
  | cons z r ih =>
    unfold insS
    split
    · simp
    · split
      · rename_i h1 h2
        subst h2
        simp
      · simp only [List.mem_cons, ih]
        constructor
        · rintro (h | h | h)
          · exact .inr (.inl h)
          · exact .inl h
          · exact .inr (.inr h)
        · rintro (h | h | h)
          · exact .inr (.inl h)
          · exact .inl h
          · exact .inr (.inr h)
theorem mem_del {x y : Int} {S : List Int} : y ∈ delS x S ↔ y ∈ S ∧ y ≠ x := by simp [delS]
theorem ins_same {x : Int} {S : List Int} (hS : S.Pairwise (· < ·)) (h : x ∈ S) : insS x S = S := by
  induction S with
  | nil => cases h
  | cons z r ih =>
    have hz := List.pairwise_cons.1 hS
    unfold insS
    rcases List.mem_cons.1 h with rfl | h
    · rw [if_neg (by omega), if_pos rfl]
    · have := hz.1 x h
      rw [if_neg (by omega), if_neg (by omega), ih hz.2 h]
theorem del_none {x : Int} {S : List Int} (h : x ∉ S) : delS x S = S := List.filter_eq_self.2 (fun y hy => by simp; exact fun e => h (e ▸ hy))
theorem ins_pw {x : Int} {S : List Int} (h : S.Pairwise (· < ·)) : (insS x S).Pairwise (· < ·) := by
  induction S with
  | nil => simp [insS]
  | cons z r ih =>
    have hz := List.pairwise_cons.1 h
    unfold insS
    split
    · rename_i h1
      refine List.pairwise_cons.2 ⟨fun y hy => ?_, h⟩
      rcases List.mem_cons.1 hy with rfl | hy
      · exact h1
      · have := hz.1 y hy; omega
    · split
      · exact h
      · refine List.pairwise_cons.2 ⟨fun y hy => ?_, ih hz.2⟩
        rcases mem_ins.1 hy with rfl | hy
        · omega
        · exact hz.1 y hy
theorem ins_rise {x : Int} {S : List Int} (h : Rise S) (hx : (Lit.int .i64 x).wf = true) : Rise (insS x S) := by
  refine ⟨ins_pw h.1, fun y hy => ?_⟩
  rcases mem_ins.1 hy with rfl | hy
  · exact hx
  · exact h.2 y hy
theorem del_rise {x : Int} {S : List Int} (h : Rise S) : Rise (delS x S) := ⟨h.1.filter _, fun y hy => h.2 y (mem_del.1 hy).1⟩
theorem ins_length {x : Int} {S : List Int} (h : x ∉ S) : (insS x S).length = S.length + 1 := by
  induction S with
  | nil => rfl
  | cons z r ih =>
    have h' : x ≠ z ∧ x ∉ r := by simpa using h
    unfold insS
    split
    · simp
    · rw [if_neg h'.1]
      simp [ih h'.2]
theorem del_length {x : Int} {S : List Int} (hS : S.Pairwise (· < ·)) (h : x ∈ S) : (delS x S).length = S.length - 1 := by
  induction S with
  | nil => cases h
  | cons z r ih =>
    have hz := List.pairwise_cons.1 hS
    by_cases e : x = z
    · subst e
      have : x ∉ r := fun hx => by have := hz.1 x hx; omega
      show (delS x (x :: r)).length = _
      unfold delS
      rw [List.filter_cons, if_neg (by simp)]
      exact congrArg List.length (del_none this)
    · have hr : x ∈ r := by simpa [e] using h
      unfold delS
      rw [List.filter_cons, if_pos (by simp; exact fun e' => e e'.symm)]
      have := ih hz.2 hr
      unfold delS at this
      have : 0 < r.length := List.length_pos_of_mem hr
      simp
      omega
/-- Two rising lists of the same numbers are one. -/
theorem rise_ext {S T : List Int} (hS : S.Pairwise (· < ·)) (hT : T.Pairwise (· < ·)) (h : ∀ x, x ∈ S ↔ x ∈ T) : S = T := by
  have h1 : S.Perm T := by
    refine (List.perm_ext_iff_of_nodup ?_ ?_).2 h
    · exact hS.imp (fun h => Int.ne_of_lt h)
    · exact hT.imp (fun h => Int.ne_of_lt h)
  exact h1.eq_of_pairwise (fun a b _ _ h1 h2 => absurd h1 (by omega)) hS hT
def setF (S : List Int) : Lit → Option Value := fun l => match l with
  | .int .i64 x => if x ∈ S then some (.agg #[]) else none
  | _ => none
theorem setF_int (S : List Int) (x : Int) : setF S (.int .i64 x) = if x ∈ S then some (.agg #[]) else none := rfl
theorem key_int {x : Int} (h : (Lit.int .i64 x).wf = true) : keyOf Try.prog 3 (.int .i64 x) = some (.int .i64 x) := Maps.keyOf_int_mk Try.underlying3 h
theorem key_inv {v : Value} {kl : Lit} (h : keyOf Try.prog 3 v = some kl) : ∃ x, kl = .int .i64 x := by
  obtain ⟨x, _, e, _⟩ := Maps.keyOf_int_inv Try.underlying3 h
  exact ⟨x, e⟩
/-- A set as it lies: none where its map was never made. -/
def StAt (W : World) (m : Option Nat) (S : List Int) : Prop := Rise S ∧ match m with
  | none => S = []
  | some b => MAt W 3 b S.length (setF S)
theorem StAt.kept {W W' : World} {m : Option Nat} {S : List Int} (h : StAt W m S) (hk : ∀ b, m = some b → W'.heap[b]? = W.heap[b]?) : StAt W' m S := by
  refine ⟨h.1, ?_⟩
  cases m with
  | none => exact h.2
  | some b => exact MAt.kept h.2 (hk b rfl)
theorem StAt.lt {W : World} {b : Nat} {S : List Int} (h : StAt W (some b) S) : b < W.heap.size := MAt.lt h.2
theorem StAt.nil (W : World) : StAt W none [] := ⟨⟨List.Pairwise.nil, fun _ h => by cases h⟩, rfl⟩
theorem set_ins {S : List Int} (x : Int) (l : Lit) : updF (setF S) (.int .i64 x) (some (.agg #[])) l = setF (insS x S) l := by
  by_cases e : l = .int .i64 x
  · subst e
    rw [upd_same, setF_int, if_pos (mem_ins.2 (.inl rfl))]
  · rw [upd_other _ _ e]
    unfold setF
    split
    · rename_i y
      have : y ≠ x := fun h => e (by rw [h])
      simp only [mem_ins, this, false_or]
    · rfl
theorem set_del {S : List Int} (x : Int) (l : Lit) : updF (setF S) (.int .i64 x) none l = setF (delS x S) l := by
  by_cases e : l = .int .i64 x
  · subst e
    rw [upd_same, setF_int, if_neg (fun h => (mem_del.1 h).2 rfl)]
  · rw [upd_other _ _ e]
    unfold setF
    split
    · rename_i y
      have : y ≠ x := fun h => e (by rw [h])
      simp only [mem_del, this, ne_eq, not_false_eq_true, and_true]
    · rfl
theorem zero84 (W : World) : (zeroValue 84).run Try.prog W = .ok (.agg #[]) W := by
  kernel_rfl
/-- 'v, ok := m[k]' of a set. -/
theorem StAt.look2 {W : World} {m : Option Nat} {S : List Int} (h : StAt W m S) {x : Int} (hx : (Lit.int .i64 x).wf = true) : (Instr.lookup 62 (.map m) (.int .i64 x) true).run Try.prog W = .ok (.tuple #[.agg #[], .bool (decide (x ∈ S))]) W := by
  cases m with
  | none =>
    have : S = [] := h.2
    subst this
    rw [Maps.look_nil true keyed3 Try.underlying62 (zero84 W) (key_int hx)]
    simp
  | some b =>
    have hm : MAt W 3 b S.length (setF S) := h.2
    rw [hm.look2 keyed3 Try.underlying62 (zero84 W) (key_int hx), setF_int]
    by_cases hxs : x ∈ S
    · simp [hxs]
    · simp [hxs]
theorem StAt.len {W : World} {m : Option Nat} {S : List Int} (h : StAt W m S) (ty : TypeId) : (Builtin.len_ #[62] ty #[.map m]).run Try.prog W = .ok (.int .i64 (S.length : Nat)) W := by
  cases m with
  | none =>
    have : S = [] := h.2
    subst this
    rw [Maps.len_nil Try.underlying62 ty]
    rfl
  | some b => exact MAt.len h.2 Try.underlying62 ty
/-- 'delete(m, k)' of a set. -/
theorem StAt.del {W : World} {m : Option Nat} {S : List Int} (h : StAt W m S) {x : Int} (hx : (Lit.int .i64 x).wf = true) (ty : TypeId) : ∃ W', (Builtin.delete_ #[62, 3] ty #[.map m, .int .i64 x]).run Try.prog W = .ok (.tuple #[]) W' ∧ StAt W' m (delS x S) ∧ Only (fun k => m = some k) W W' := by
  cases m with
  | none =>
    have : S = [] := h.2
    subst this
    exact ⟨W, Maps.drop_nil keyed3 Try.underlying62 (key_int hx) ty, StAt.nil W, Only.refl _ _⟩
  | some b =>
    have hm : MAt W 3 b S.length (setF S) := h.2
    obtain ⟨o, hr, hm2⟩ := hm.del keyed3 Try.underlying62 (key_int hx) ty
    refine ⟨_, hr, ⟨del_rise h.1, ?_⟩, Only.setBlock (S := fun k => some b = some k) (Only.refl _ W) (.inl rfl) o⟩
    have hl : (if (setF S (.int .i64 x)).isSome = true then S.length - 1 else S.length) = (delS x S).length := by
      rw [setF_int]
      by_cases hxs : x ∈ S
      · rw [if_pos hxs, del_length h.1.1 hxs]; rfl
      · rw [if_neg hxs, del_none hxs]; rfl
    rw [hl] at hm2
    exact hm2.say (fun _ l _ => set_del x l)
/-- 'm[k] = struct{}{}' of a set whose map is made. -/
theorem StAt.put {W : World} {b : Nat} {S : List Int} (h : StAt W (some b) S) (hn : S.length < maxLen) {x : Int} (hx : (Lit.int .i64 x).wf = true) : ∃ o, (Instr.mapUpdate 62 (.map (some b)) (.int .i64 x) (.agg #[])).run Try.prog W = .ok () (setBlock W b o) ∧ StAt (setBlock W b o) (some b) (insS x S) := by
  have hm : MAt W 3 b S.length (setF S) := h.2
  obtain ⟨o, hr, hm2⟩ := hm.put keyed3 Try.underlying62 hn (key_int hx) (val := .agg #[])
  refine ⟨o, hr, ins_rise h.1 hx, ?_⟩
  have hl : (if (setF S (.int .i64 x)).isSome = true then S.length else S.length + 1) = (insS x S).length := by
    rw [setF_int]
    by_cases hxs : x ∈ S
    · rw [if_pos hxs, ins_same h.1.1 hxs]; rfl
    · rw [if_neg hxs, ins_length hxs]; rfl
  rw [hl] at hm2
  exact hm2.say (fun _ l _ => set_ins x l)
set_option maxRecDepth 100000 in
set_option maxHeartbeats 2000000 in
theorem has_any (W : World) (b off : Nat) (m : Option Nat) (S : List Int) (hc : W.cell? ⟨b, off, none⟩ = some (.map m)) (h : StAt W m S) (x : Int) (hx : (Lit.int .i64 x).wf = true) :
    Calls Try.prog 60 #[.pointer (some ⟨b, off, none⟩), .int .i64 x] W fun e W' => e = .returned (.bool (decide (x ∈ S))) ∧ Below W.heap.size W W' := by
  have q1 := h.look2 hx
  go_enter Try.func60, Try.ntmps60
  go_wp2
  go_ret
  exact ⟨rfl, by first | exact (Below.refl _ W).alloc (Nat.le_refl _) _ | exact Below.refl _ W⟩
set_option maxRecDepth 100000 in
set_option maxHeartbeats 2000000 in
theorem size_any (W : World) (b off : Nat) (m : Option Nat) (S : List Int) (hc : W.cell? ⟨b, off, none⟩ = some (.map m)) (h : StAt W m S) :
    Calls Try.prog 38 #[.pointer (some ⟨b, off, none⟩)] W fun e W' => e = .returned (.int .i64 (S.length : Nat)) ∧ W' = W := by
  have q1 := h.len 3
  go_enter Try.func38, Try.ntmps38
  go_wp2
  go_ret
  exact ⟨rfl, rfl⟩
set_option maxRecDepth 100000 in
set_option maxHeartbeats 2000000 in
theorem remove_any (W : World) (b off : Nat) (m : Option Nat) (S : List Int) (hc : W.cell? ⟨b, off, none⟩ = some (.map m)) (h : StAt W m S) (x : Int) (hx : (Lit.int .i64 x).wf = true) :
    Calls Try.prog 56 #[.pointer (some ⟨b, off, none⟩), .int .i64 x] W fun e W' => e = .returned (.tuple #[]) ∧ StAt W' m (delS x S) ∧ Only (fun k => m = some k) W W' := by
  obtain ⟨W', q1, q2, q3⟩ := h.del hx 0
  go_enter Try.func56, Try.ntmps56
  go_wp2
  go_end0
  exact ⟨rfl, q2, q3⟩
theorem set_other (w : World) (b i : Nat) (u : Value) {k : Nat} (h : k ≠ b) : (w.setCell ⟨b, i, none⟩ u).heap[k]? = w.heap[k]? := Below.heap_setCell _ _ _ _ h
theorem eqm_some (q : Nat) (W : World) : (binOp BinOp.eql 62 (.map (some q)) (.map none)).run Try.prog W = .ok (.bool false) W := by kernel_rfl
theorem eqm_none (W : World) : (binOp BinOp.eql 62 (.map none) (.map none)).run Try.prog W = .ok (.bool true) W := by kernel_rfl
theorem set_same {cs : Array Value} {i : Nat} {v : Value} (h : cs[i]? = some v) : cs.setIfInBounds i v = cs := by
  apply Array.ext
  · simp
  · intro j h1 h2
    rw [Array.getElem_setIfInBounds]
    split
    · rename_i e
      subst e
      rw [Array.getElem?_eq_getElem h2] at h
      exact (Option.some.inj h).symm
    · rfl
set_option maxRecDepth 100000 in
set_option maxHeartbeats 2000000 in
/-- A number into a set. -/
theorem add_any (W : World) (b off : Nat) (cs : Array Value) (ty : TypeId) (m : Option Nat) (S : List Int) (hb : W.heap[b]? = some (.cells cs ty (0, 0))) (hoff : cs[off]? = some (.map m)) (h : StAt W m S) (hn : S.length < 1000000) (hbm : m ≠ some b) (x : Int) (hx : (Lit.int .i64 x).wf = true) :
    Calls Try.prog 47 #[.pointer (some ⟨b, off, none⟩), .int .i64 x] W fun e W' => e = .returned (.bool (!decide (x ∈ S))) ∧ ∃ m', (m' = m ∨ (m = none ∧ ∃ q, m' = some q ∧ W.heap.size ≤ q)) ∧ W'.heap[b]? = some (.cells (cs.setIfInBounds off (.map m')) ty (0, 0)) ∧ StAt W' m' (insS x S) ∧ Only (fun k => k = b ∨ m = some k) W W' := by
  have hc : W.cell? ⟨b, off, none⟩ = some (.map m) := by rw [blk_cell hb, hoff]
  have hfr : W.frozen? ⟨b, off, none⟩ = false := blk_free hb off
  have HH := Hid.mk (has_any W b off m S hc h x hx)
  have hlt := lt_of_block hb
  by_cases hxs : x ∈ S
  · rw [decide_eq_true hxs] at HH
    go_enter Try.func47, Try.ntmps47
    go_wp2_with (go_at_call 60; refine HH.out.mono ?_; rintro e w1 ⟨rfl, hB1⟩; have HB1 := Hid.mk hB1; clear hB1 HH)
    go_ret
    refine ⟨by simp [hxs], m, .inl rfl, ?_, ?_, Only.of_new _ HB1.out⟩
    · rw [HB1.out.block b hlt, hb, set_same hoff]
    · rw [ins_same h.1.1 hxs]
      exact h.kept (fun q hq => HB1.out.block q (by subst hq; exact h.lt))
  · rw [decide_eq_false hxs] at HH
    have HK : Hid (∀ w1, Below W.heap.size W w1 → w1.cell? ⟨b, off, none⟩ = some (.map m) ∧ w1.frozen? ⟨b, off, none⟩ = false ∧ (w1.alloc (.map #[] 0)).cell? ⟨b, off, none⟩ = some (.map m) ∧ (w1.alloc (.map #[] 0)).frozen? ⟨b, off, none⟩ = false) := Hid.mk (fun w1 hB => by
      have e1 := hB.block b hlt
      have e2 : (w1.alloc (.map #[] 0)).heap[b]? = W.heap[b]? := by rw [Below.heap_alloc _ _ _ (by have := hB.size; omega)]; exact e1
      exact ⟨(World.cell?_of_block (w := W) e1).trans hc, (World.frozen?_of_block (w := W) e1).trans hfr, (World.cell?_of_block (w := W) e2).trans hc, (World.frozen?_of_block (w := W) e2).trans hfr⟩)
    cases m with
    | none =>
      have hS : S = [] := h.2
      subst hS
      have HP : Hid (∀ w1, Below W.heap.size W w1 → ∃ o, (Instr.mapUpdate 62 (.map (some w1.heap.size)) (.int .i64 x) (.agg #[])).run Try.prog ((w1.alloc (.map #[] 0)).setCell ⟨b, off, none⟩ (.map (some w1.heap.size))) = .ok () (setBlock ((w1.alloc (.map #[] 0)).setCell ⟨b, off, none⟩ (.map (some w1.heap.size))) w1.heap.size o) ∧ ((w1.alloc (.map #[] 0)).setCell ⟨b, off, none⟩ (.map (some w1.heap.size))).cell? ⟨b, off, none⟩ = some (.map (some w1.heap.size)) ∧
          (setBlock ((w1.alloc (.map #[] 0)).setCell ⟨b, off, none⟩ (.map (some w1.heap.size))) w1.heap.size o).heap[b]? = some (.cells (cs.setIfInBounds off (.map (some w1.heap.size))) ty (0, 0)) ∧ StAt (setBlock ((w1.alloc (.map #[] 0)).setCell ⟨b, off, none⟩ (.map (some w1.heap.size))) w1.heap.size o) (some w1.heap.size) (insS x []) ∧
          Only (fun k => k = b ∨ (none : Option Nat) = some k) W (setBlock ((w1.alloc (.map #[] 0)).setCell ⟨b, off, none⟩ (.map (some w1.heap.size))) w1.heap.size o)) := Hid.mk (fun w1 hB => by
        have hne : b ≠ w1.heap.size := by have := hB.size; omega
        have hb1 : (w1.alloc (.map #[] 0)).heap[b]? = some (.cells cs ty (0, 0)) := by
          rw [Below.heap_alloc _ _ _ (by have := hB.size; omega), hB.block b hlt, hb]
        have h2 : StAt ((w1.alloc (.map #[] 0)).setCell ⟨b, off, none⟩ (.map (some w1.heap.size))) (some w1.heap.size) [] := by
          refine ⟨⟨List.Pairwise.nil, fun _ h => by cases h⟩, ?_⟩
          have := (MAt.new w1 3).kept (W' := (w1.alloc (.map #[] 0)).setCell ⟨b, off, none⟩ (.map (some w1.heap.size))) (set_other _ _ _ _ (fun e => hne e.symm))
          exact this.say (fun _ l _ => by unfold setF; split <;> simp)
        obtain ⟨o, hr, h3⟩ := h2.put (by unfold maxLen; simp) hx
        refine ⟨o, hr, ?_, ?_, h3, ?_⟩
        · rw [blk_cell (blk_set hb1)]
          have : off < cs.size := by
            rcases Nat.lt_or_ge off cs.size with h | h
            · exact h
            · rw [Array.getElem?_eq_none h] at hoff; cases hoff
          simp [this]
        · rw [heap_set_other hne]
          exact blk_set hb1
        · exact Only.setBlock (((Only.of_new _ hB).alloc _).setCell (p := ⟨b, off, none⟩) (.inl (.inl rfl)) _) (.inr hB.size) o)
      have qe := eqm_none
      have hmm := @run_makeMap Try.prog
      clear hb hoff h
      go_enter Try.func47, Try.ntmps47
      go_wp2_with (first
        | (go_at_call 60; refine HH.out.mono ?_; rintro e w1 ⟨rfl, hB1⟩; obtain ⟨k1, k2, k3, k4⟩ := HK.out w1 hB1; obtain ⟨o, p1, p2, p3, p4, p5⟩ := HP.out w1 hB1; have HF := Hid.mk (And.intro hB1.size (And.intro p3 (And.intro p4 p5))); clear hB1 HH p3 p4 p5 HP HK))
      go_ret
      exact ⟨by simp [hxs], _, .inr ⟨trivial, _, rfl, HF.out.1⟩, HF.out.2.1, HF.out.2.2.1, HF.out.2.2.2⟩
    | some q =>
      have hqb : b ≠ q := fun e => hbm (by rw [e])
      have HP : Hid (∀ w1, Below W.heap.size W w1 → ∃ o, (Instr.mapUpdate 62 (.map (some q)) (.int .i64 x) (.agg #[])).run Try.prog w1 = .ok () (setBlock w1 q o) ∧ (setBlock w1 q o).heap[b]? = some (.cells (cs.setIfInBounds off (.map (some q))) ty (0, 0)) ∧ StAt (setBlock w1 q o) (some q) (insS x S) ∧ Only (fun k => k = b ∨ some q = some k) W (setBlock w1 q o)) := Hid.mk (fun w1 hB => by
        have h2 : StAt w1 (some q) S := h.kept (fun q' hq => hB.block q' (by cases hq; exact h.lt))
        obtain ⟨o, hr, h3⟩ := h2.put (by unfold maxLen; omega) hx
        refine ⟨o, hr, ?_, h3, Only.setBlock (Only.of_new _ hB) (.inl (.inr rfl)) o⟩
        rw [heap_set_other hqb, hB.block b hlt, hb, set_same hoff])
      have qe := eqm_some q
      clear hb hoff h
      go_enter Try.func47, Try.ntmps47
      go_wp2_with (first
        | (go_at_call 60; refine HH.out.mono ?_; rintro e w1 ⟨rfl, hB1⟩; obtain ⟨k1, k2, k3, k4⟩ := HK.out w1 hB1; obtain ⟨o, p1, p3, p4, p5⟩ := HP.out w1 hB1; have HF := Hid.mk (And.intro p3 (And.intro p4 p5)); clear hB1 HH p3 p4 p5 HP HK))
      go_ret
      exact ⟨by simp [hxs], _, .inl rfl, HF.out.1, HF.out.2.1, HF.out.2.2⟩
end Go.Proofs.Ythmbhcmicebcpaa
