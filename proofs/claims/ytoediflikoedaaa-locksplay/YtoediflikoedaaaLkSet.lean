/-
  Sets of ints, as they lie: a map whose elements have no parts.
-/
import Derived.Test.YtoediflikoedaaaTrMap
import Derived.Test.YtoediflikoedaaaAll
import Derived.Shelf.SlIterI.Nil
namespace Go.Proofs.Ytoediflikoedaaa
open Go Go.Proofs Go.RowKit Go.Shelf
open Go.ChangeMaps (setBlock)
/-- A number into a rising list, once. -/
def insS (x : Int) : List Int → List Int
  | [] => [x]
  | y :: r => if x < y then x :: y :: r else if x = y then y :: r else y :: insS x r
def delS (x : Int) (S : List Int) : List Int := S.filter (fun y => y != x)
/-- Strictly rising, all of them ints. -/
def Rise (S : List Int) : Prop := S.Pairwise (· < ·) ∧ ∀ x ∈ S, (Lit.int .i64 x).wf = true
theorem mem_ins {x y : Int} {S : List Int} : y ∈ insS x S ↔ y = x ∨ y ∈ S := by
  induction S with
  | nil => simp [insS]
  | cons z r ih =>
    unfold insS
    split
    · simp
    · split
      · rename_i h1 h2
        subst h2
        simp
      · simp only [List.mem_cons, ih]
        constructor
        · rintro (h | h | h)
          · exact .inr (.inl h)
          · exact .inl h
          · exact .inr (.inr h)
        · rintro (h | h | h)
          · exact .inr (.inl h)
          · exact .inl h
          · exact .inr (.inr h)
theorem mem_del {x y : Int} {S : List Int} : y ∈ delS x S ↔ y ∈ S ∧ y ≠ x := by simp [delS]
theorem ins_same {x : Int} {S : List Int} (hS : S.Pairwise (· < ·)) (h : x ∈ S) : insS x S = S := by
  induction S with
  | nil => cases h
  | cons z r ih =>
    have hz := List.pairwise_cons.1 hS
    unfold insS
    rcases List.mem_cons.1 h with rfl | h
    · rw [if_neg (by omega), if_pos rfl]
    · have := hz.1 x h
      rw [if_neg (by omega), if_neg (by omega), ih hz.2 h]
theorem del_none {x : Int} {S : List Int} (h : x ∉ S) : delS x S = S := List.filter_eq_self.2 (fun y hy => by simp; exact fun e => h (e ▸ hy))
theorem ins_pw {x : Int} {S : List Int} (h : S.Pairwise (· < ·)) : (insS x S).Pairwise (· < ·) := by
  induction S with
  | nil => simp [insS]
  | cons z r ih =>
    have hz := List.pairwise_cons.1 h
    unfold insS
    split
    · rename_i h1
      refine List.pairwise_cons.2 ⟨fun y hy => ?_, h⟩
      rcases List.mem_cons.1 hy with rfl | hy
      · exact h1
      · have := hz.1 y hy; omega
    · split
      · exact h
      · refine List.pairwise_cons.2 ⟨fun y hy => ?_, ih hz.2⟩
        rcases mem_ins.1 hy with rfl | hy
        · omega
        · exact hz.1 y hy
theorem ins_rise {x : Int} {S : List Int} (h : Rise S) (hx : (Lit.int .i64 x).wf = true) : Rise (insS x S) := by
  refine ⟨ins_pw h.1, fun y hy => ?_⟩
  rcases mem_ins.1 hy with rfl | hy
  · exact hx
  · exact h.2 y hy
theorem del_rise {x : Int} {S : List Int} (h : Rise S) : Rise (delS x S) := ⟨h.1.filter _, fun y hy => h.2 y (mem_del.1 hy).1⟩
theorem ins_length {x : Int} {S : List Int} (h : x ∉ S) : (insS x S).length = S.length + 1 := by
  induction S with
  | nil => rfl
  | cons z r ih =>
    have h' : x ≠ z ∧ x ∉ r := by simpa using h
    unfold insS
    split
    · simp
    · rw [if_neg h'.1]
      simp [ih h'.2]
theorem del_length {x : Int} {S : List Int} (hS : S.Pairwise (· < ·)) (h : x ∈ S) : (delS x S).length = S.length - 1 := by
  induction S with
  | nil => cases h
  | cons z r ih =>
    have hz := List.pairwise_cons.1 hS
    by_cases e : x = z
    · subst e
      have : x ∉ r := fun hx => by have := hz.1 x hx; omega
      show (delS x (x :: r)).length = _
      unfold delS
      rw [List.filter_cons, if_neg (by simp)]
      exact congrArg List.length (del_none this)
    · have hr : x ∈ r := by simpa [e] using h
      unfold delS
      rw [List.filter_cons, if_pos (by simp; exact fun e' => e e'.symm)]
      have := ih hz.2 hr
      unfold delS at this
      have : 0 < r.length := List.length_pos_of_mem hr
      simp
      omega
/-- Two rising lists of the same numbers are one. -/
theorem rise_ext {S T : List Int} (hS : S.Pairwise (· < ·)) (hT : T.Pairwise (· < ·)) (h : ∀ x, x ∈ S ↔ x ∈ T) : S = T := by
  have h1 : S.Perm T := by
    refine (List.perm_ext_iff_of_nodup ?_ ?_).2 h
    · exact hS.imp (fun h => Int.ne_of_lt h)
    · exact hT.imp (fun h => Int.ne_of_lt h)
  exact h1.eq_of_pairwise (fun a b _ _ h1 h2 => absurd h1 (by omega)) hS hT
def setF (S : List Int) : Lit → Option Value := fun l => match l with
  | .int .i64 x => if x ∈ S then some (.agg #[]) else none
  | _ => none
theorem setF_int (S : List Int) (x : Int) : setF S (.int .i64 x) = if x ∈ S then some (.agg #[]) else none := rfl
theorem key_int {x : Int} (h : (Lit.int .i64 x).wf = true) : keyOf Try.prog 3 (.int .i64 x) = some (.int .i64 x) := Maps.keyOf_int_mk Try.underlying3 h
theorem key_inv {v : Value} {kl : Lit} (h : keyOf Try.prog 3 v = some kl) : ∃ x, kl = .int .i64 x := by
  obtain ⟨x, _, e, _⟩ := Maps.keyOf_int_inv Try.underlying3 h
  exact ⟨x, e⟩
/-- A set as it lies: none where its map was never made. -/
def StAt (W : World) (m : Option Nat) (S : List Int) : Prop := Rise S ∧ match m with
  | none => S = []
  | some b => MAt W 3 b S.length (setF S)
theorem StAt.kept {W W' : World} {m : Option Nat} {S : List Int} (h : StAt W m S) (hk : ∀ b, m = some b → W'.heap[b]? = W.heap[b]?) : StAt W' m S := by
  refine ⟨h.1, ?_⟩
  cases m with
  | none => exact h.2
  | some b => exact MAt.kept h.2 (hk b rfl)
theorem StAt.lt {W : World} {b : Nat} {S : List Int} (h : StAt W (some b) S) : b < W.heap.size := MAt.lt h.2
theorem StAt.nil (W : World) : StAt W none [] := ⟨⟨List.Pairwise.nil, fun _ h => by cases h⟩, rfl⟩
theorem set_ins {S : List Int} (x : Int) (l : Lit) : updF (setF S) (.int .i64 x) (some (.agg #[])) l = setF (insS x S) l := by
  by_cases e : l = .int .i64 x
  · subst e
    rw [upd_same, setF_int, if_pos (mem_ins.2 (.inl rfl))]
  · rw [upd_other _ _ e]
    unfold setF
    split
    · rename_i y
      have : y ≠ x := fun h => e (by rw [h])
      simp only [mem_ins, this, false_or]
    · rfl
theorem set_del {S : List Int} (x : Int) (l : Lit) : updF (setF S) (.int .i64 x) none l = setF (delS x S) l := by
  by_cases e : l = .int .i64 x
  · subst e
    rw [upd_same, setF_int, if_neg (fun h => (mem_del.1 h).2 rfl)]
  · rw [upd_other _ _ e]
    unfold setF
    split
    · rename_i y
      have : y ≠ x := fun h => e (by rw [h])
      simp only [mem_del, this, ne_eq, not_false_eq_true, and_true]
    · rfl
theorem zeroE (W : World) : (zeroValue 66).run Try.prog W = .ok (.agg #[]) W := by
  kernel_rfl
/-- 'v, ok := m[k]' of a set. -/
theorem StAt.look2 {W : World} {m : Option Nat} {S : List Int} (h : StAt W m S) {x : Int} (hx : (Lit.int .i64 x).wf = true) : (Instr.lookup 65 (.map m) (.int .i64 x) true).run Try.prog W = .ok (.tuple #[.agg #[], .bool (decide (x ∈ S))]) W := by
  cases m with
  | none =>
    have : S = [] := h.2
    subst this
    rw [Maps.look_nil true keyed3 Try.underlying65 (zeroE W) (key_int hx)]
    simp
  | some b =>
    have hm : MAt W 3 b S.length (setF S) := h.2
    rw [hm.look2 keyed3 Try.underlying65 (zeroE W) (key_int hx), setF_int]
    by_cases hxs : x ∈ S
    · simp [hxs]
    · simp [hxs]
theorem StAt.len {W : World} {m : Option Nat} {S : List Int} (h : StAt W m S) (ty : TypeId) : (Builtin.len_ #[65] ty #[.map m]).run Try.prog W = .ok (.int .i64 (S.length : Nat)) W := by
  cases m with
  | none =>
    have : S = [] := h.2
    subst this
    rw [Maps.len_nil Try.underlying65 ty]
    rfl
  | some b => exact MAt.len h.2 Try.underlying65 ty
/-- 'delete(m, k)' of a set. -/
theorem StAt.del {W : World} {m : Option Nat} {S : List Int} (h : StAt W m S) {x : Int} (hx : (Lit.int .i64 x).wf = true) (ty : TypeId) : ∃ W', (Builtin.delete_ #[65, 3] ty #[.map m, .int .i64 x]).run Try.prog W = .ok (.tuple #[]) W' ∧ StAt W' m (delS x S) ∧ Only (fun k => m = some k) W W' := by
  cases m with
  | none =>
    have : S = [] := h.2
    subst this
    exact ⟨W, Maps.drop_nil keyed3 Try.underlying65 (key_int hx) ty, StAt.nil W, Only.refl _ _⟩
  | some b =>
    have hm : MAt W 3 b S.length (setF S) := h.2
    obtain ⟨o, hr, hm2⟩ := hm.del keyed3 Try.underlying65 (key_int hx) ty
    refine ⟨_, hr, ⟨del_rise h.1, ?_⟩, Only.setBlock (S := fun k => some b = some k) (Only.refl _ W) (.inl rfl) o⟩
    have hl : (if (setF S (.int .i64 x)).isSome = true then S.length - 1 else S.length) = (delS x S).length := by
      rw [setF_int]
      by_cases hxs : x ∈ S
      · rw [if_pos hxs, del_length h.1.1 hxs]; rfl
      · rw [if_neg hxs, del_none hxs]; rfl
    rw [hl] at hm2
    exact hm2.say (fun _ l _ => set_del x l)
/-- 'm[k] = struct{}{}' of a set whose map is made. -/
theorem StAt.put {W : World} {b : Nat} {S : List Int} (h : StAt W (some b) S) (hn : S.length < maxLen) {x : Int} (hx : (Lit.int .i64 x).wf = true) : ∃ o, (Instr.mapUpdate 65 (.map (some b)) (.int .i64 x) (.agg #[])).run Try.prog W = .ok () (setBlock W b o) ∧ StAt (setBlock W b o) (some b) (insS x S) := by
  have hm : MAt W 3 b S.length (setF S) := h.2
  obtain ⟨o, hr, hm2⟩ := hm.put keyed3 Try.underlying65 hn (key_int hx) (val := .agg #[])
  refine ⟨o, hr, ins_rise h.1 hx, ?_⟩
  have hl : (if (setF S (.int .i64 x)).isSome = true then S.length else S.length + 1) = (insS x S).length := by
    rw [setF_int]
    by_cases hxs : x ∈ S
    · rw [if_pos hxs, ins_same h.1.1 hxs]; rfl
    · rw [if_neg hxs, ins_length hxs]; rfl
  rw [hl] at hm2
  exact hm2.say (fun _ l _ => set_ins x l)
theorem set_other (w : World) (b i : Nat) (u : Value) {k : Nat} (h : k ≠ b) : (w.setCell ⟨b, i, none⟩ u).heap[k]? = w.heap[k]? := Below.heap_setCell _ _ _ _ h
theorem StAt.new (W : World) : StAt (W.alloc (.map #[] 0)) (some W.heap.size) [] := by
  refine ⟨⟨List.Pairwise.nil, fun _ h => by cases h⟩, ?_⟩
  exact (MAt.new W 3).say (fun _ l _ => by unfold setF; split <;> simp)
def updC {α : Type} (f : Int → Option α) (i : Int) (o : Option α) : Int → Option α := fun j => if j = i then o else f j
theorem updC_same {α : Type} (f : Int → Option α) (i : Int) (o : Option α) : updC f i o i = o := by simp [updC]
theorem updC_other {α : Type} (f : Int → Option α) {i j : Int} (o : Option α) (h : j ≠ i) : updC f i o j = f j := by simp [updC, h]
theorem updC_id {α : Type} (f : Int → Option α) (i : Int) (o : Option α) (h : f i = o) : updC f i o = f := by
  funext j
  by_cases e : j = i
  · subst e; rw [updC_same, h]
  · rw [updC_other _ _ e]
theorem updC_twice {α : Type} (f : Int → Option α) (i : Int) (o o' : Option α) : updC (updC f i o) i o' = updC f i o' := by
  funext j
  by_cases e : j = i
  · subst e; rw [updC_same, updC_same]
  · rw [updC_other _ _ e, updC_other _ _ e, updC_other _ _ e]
theorem map_updC {α β : Type} (f : Int → Option α) (g : α → β) (i : Int) (o : Option α) : (fun j => (updC f i o j).map g) = updC (fun j => (f j).map g) i (o.map g) := by
  funext j
  by_cases e : j = i
  · subst e; rw [updC_same, updC_same]
  · rw [updC_other _ _ e, updC_other _ _ e]
def MapAt (W : World) (m : Option Nat) (n : Nat) (f : Lit → Option Value) : Prop := match m with
  | none => n = 0 ∧ ∀ l, f l = none
  | some b => MAt W 3 b n f
theorem MapAt.say {W : World} {m : Option Nat} {n : Nat} {f f' : Lit → Option Value} (h : MapAt W m n f) (e : ∀ l, f l = f' l) : MapAt W m n f' := by
  obtain rfl : f = f' := funext e
  exact h
/-- What lies in a map of numbers, by a function of the number. -/
def intF {α : Type} (e : α → Value) (f : Int → Option α) : Lit → Option Value := fun l => match l with
  | .int .i64 i => (f i).map e
  | _ => none
theorem intF_int {α : Type} (e : α → Value) (f : Int → Option α) (i : Int) : intF e f (.int .i64 i) = (f i).map e := rfl
theorem intF_upd {α : Type} (e : α → Value) (f : Int → Option α) (i : Int) (o : Option α) (l : Lit) : intF e (updC f i o) l = updF (intF e f) (.int .i64 i) (o.map e) l := by
  by_cases h : l = .int .i64 i
  · subst h
    rw [upd_same, intF_int, updC_same]
  · rw [upd_other _ _ h]
    unfold intF
    split
    · rename_i j
      rw [updC_other _ _ (fun q => h (by rw [q]))]
    · rfl
end Go.Proofs.Ytoediflikoedaaa
