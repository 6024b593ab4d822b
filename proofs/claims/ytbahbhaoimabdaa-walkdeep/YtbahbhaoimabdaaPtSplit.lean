/-
  Split of the program.
-/
import Derived.Test.YtbahbhaoimabdaaPtEach
namespace Go.Proofs.Ytbahbhaoimabdaa
open Go Go.Proofs Go.RowKit Go.Shelf
attribute [local go_sem] Oper.semAt_some

section
variable {F : Fence} {n : Nat} {w : World} {ops : Array Oper} {rest : List Oper} {o : Oper} {a : Act} {Q : Exit → Act → World → Prop}
theorem wpLIn_known (hp : ∀ c, o.op ≠ .defer c) (ha : o.about Try.prog w a.eval = none) (hw : Region.wanted o (yielded ops a.tmps) = true) (v : Value) (w' : World) (hrun : (execOp a.eval o).run Try.prog w = .ok (.value v) w') (h : wpListIn F n Try.prog ops Q rest (a.put o.dst v) w') : wpListIn F n Try.prog ops Q (o :: rest) a w := by
  refine BigFrame.wpListIn_want hw fun K hK => ?_
  unfold Oper.wpIn
  refine ⟨fun f hf => (by rw [ha] at hf; cases hf), ?_⟩
  rw [Oper.semAt_plain F _ _ hp, hrun, Oper.uponIn_value]
  exact hK _ _ h
theorem wpLIn_one (x : Operand) (ho : o.op = .buildSlice 31 1 #[(0, x)]) (hw : Region.wanted o (yielded ops a.tmps) = true) (p : List UInt8) (q : Nat) (W1 : World) (hq : q = w.heap.size) (hW : W1 = w.alloc (.cells #[strV p] 9)) (hx : a.eval x = strV p) (h : wpListIn F n Try.prog ops Q rest (a.put o.dst (.slice (some ⟨q, 0, none⟩) 1 1)) W1) : wpListIn F n Try.prog ops Q (o :: rest) a w := by
  subst hq hW
  exact wpLIn_known (by rw [ho]; intro c hc; cases hc) (by simp [Oper.about, ho]) hw _ _ (exec_one9 ho hx) h
theorem wpLIn_append (hgd : o.guard = none) (s x : Operand) (t : TypeId) (ho : o.op = .call { callee := .builtin .append, args := #[s, x], argTypes := #[t, t] }) (v vx v' : Value) (w' : World) (hs : a.eval s = v) (hx : a.eval x = vx)
    (hrun : (Builtin.append_ #[t, t] o.type #[v, vx]).run Try.prog w = .ok v' w') (h : wpListIn F n Try.prog ops Q rest (a.put o.dst v') w') : wpListIn F n Try.prog ops Q (o :: rest) a w := by
  refine wpListIn_plain hgd fun K hK => ?_
  unfold Oper.wpIn
  refine ⟨?_, ?_⟩
  · simp [Oper.about, ho, resolve, Target.leads, Sem.run_pure]
  · rw [Oper.semAt_plain F _ _ (by rw [ho]; intro c hc; cases hc)]
    simp [execOp, ho, resolve, invoke, builtin, hs, hx, hrun, Result.andThen]
    exact hK _ _ h
end

/-- What Split answers. -/
def splE (o : Option (List (List UInt8))) : Int := match o with | none => 15 | some _ => 0
def splL (o : Option (List (List UInt8))) : List (List UInt8) := o.getD []

/-- Between two rounds. -/
structure PI (r : List UInt8) (w : World) (pre : List Nat) (W : World) : Prop where
  all : ∀ q ∈ pre, mayB (pcA r q) = true
  r0 : W.heap[w.heap.size]? = some (.cells #[.slice none 0 0] 31 (0, 0))
  r1 : W.heap[w.heap.size + 1]? = some (.cells #[.int .i64 0] 25 (0, 0))
  out : ∃ v, W.heap[w.heap.size + 2]? = some (.cells #[v] 31 (0, 0)) ∧ W.ownsRow (w.heap.size + 4) 9 1 v pre.length (Sy (pre.map (pcA r)))
  below : Below w.heap.size w W
  size : w.heap.size + 4 ≤ W.heap.size
/-- A round has found one that may not be. -/
structure PX (r : List UInt8) (w : World) (c : Code) (pre : List Nat) (W : World) : Prop where
  ret : c = .ret
  bad : ∃ q ∈ pre, mayB (pcA r q) = false
  r0 : W.heap[w.heap.size]? = some (.cells #[.slice none 0 0] 31 (0, 0))
  r1 : W.heap[w.heap.size + 1]? = some (.cells #[.int .i64 15] 25 (0, 0))
  below : Below w.heap.size w W
  size : w.heap.size + 4 ≤ W.heap.size
theorem PI_own (r : List UInt8) (w : World) : OwnFrom (w.heap.size + 4) (PI r w) := by
  intro pre W W' row h hg hr
  obtain ⟨v, h1, h2⟩ := h.out
  refine ⟨h.all, keep_cells h.r0 hg (fun r e => (hr r e).2), keep_cells h.r1 hg (fun r e => (hr r e).2), ⟨v, keep_cells h1 hg (fun r e => (hr r e).2), owns_at h2 (fun j e => ?_)⟩, h.below.grown hg h.below.size (fun k e => by have := (hr k e).1; omega), Nat.le_trans h.size hg.size⟩
  obtain ⟨c, t, fr, hc⟩ := owns_isC h2 j e
  rw [keep_cells hc hg (fun r e => (hr r e).2), hc]
theorem PX_own (r : List UInt8) (w : World) (c : Code) : OwnFrom (w.heap.size + 4) (PX r w c) := by
  intro pre W W' row h hg hr
  exact ⟨h.ret, h.bad, keep_cells h.r0 hg (fun r e => (hr r e).2), keep_cells h.r1 hg (fun r e => (hr r e).2), h.below.grown hg h.below.size (fun k e => by have := (hr k e).1; omega), Nat.le_trans h.size hg.size⟩

theorem parts_range (r : List UInt8) : (List.range' 0 (partsL r).length).map (pcA r) = partsL r := by
  apply List.ext_getElem?
  intro i
  rw [List.getElem?_map]
  rcases Nat.lt_or_ge i (partsL r).length with h | h
  · rw [List.getElem?_range' h]
    simp [pcA, List.getD, List.getElem?_eq_getElem h]
  · rw [List.getElem?_eq_none h, List.getElem?_eq_none (by simpa using h)]
    rfl

set_option maxHeartbeats 1000000 in
theorem split_early (w : World) (s : ByteArray) (hs : s.size ≤ 16777216) (h : Lib.hasPrefix (ofS s) [47] = false ∨ 500 < s.size) : Calls Try.prog 22 #[.string s] w fun e w' => e = .returned (.tuple #[.slice none 0 0, .int .i64 15]) ∧ Below w.heap.size w w' := by
  have HP := Hid.mk (fun W => strings_HasPrefix s ⟨#[47]⟩ W)
  rw [show (ByteArray.mk #[47]).data.toList = [47] from rfl, show s.data.toList = ofS s from rfl] at HP
  have q0 := blk_new w (.cells #[.slice none 0 0] 31)
  have q1 := blk_new (w.alloc (.cells #[.slice none 0 0] 31)) (.cells #[.int .i64 15] 25)
  rw [World.size_alloc] at q1
  have c1 : ((w.alloc (.cells #[.slice none 0 0] 31)).alloc (.cells #[.int .i64 15] 25)).cell? ⟨w.heap.size, 0, none⟩ = some (.slice none 0 0) := by
    rw [blk_cell (by rw [Below.heap_alloc _ _ _ (by simp)]; exact q0)]; rfl
  have c2 : ((w.alloc (.cells #[.slice none 0 0] 31)).alloc (.cells #[.int .i64 15] 25)).cell? ⟨w.heap.size + 1, 0, none⟩ = some (.int .i64 15) := by
    rw [blk_cell q1]; rfl
  have HC := Hid.mk (And.intro c1 c2)
  have HB : Hid (Below w.heap.size w ((w.alloc (.cells #[.slice none 0 0] 31)).alloc (.cells #[.int .i64 15] 25))) := Hid.mk (((Below.refl _ w).alloc (Nat.le_refl _) _).alloc (by simp) _)
  clear q0 q1 c1 c2
  cases hp : Lib.hasPrefix (ofS s) [47] with
  | false =>
    rw [hp] at HP
    clear hp h
    go_enter Try.func22, Try.ntmps22
    go_wp2_with (go_at_call 32; refine (HP.out _).mono ?_; rintro e w' ⟨rfl, hw⟩; subst w')
    refine bodyPost_ret (v := .tuple #[.slice none 0 0, .int .i64 15]) ?_ rfl ⟨rfl, HB.out⟩
    obtain ⟨c1, c2⟩ := HC.out
    simp [results, Try.f22, go_sem, c1, c2]
  | true =>
    rw [hp] at HP h
    have h2 : 500 < s.size := by simpa using h
    clear hp h
    have h3 : (500 : Int) < s.size := by omega
    go_enter Try.func22, Try.ntmps22
    go_wp2_with (go_at_call 32; refine (HP.out _).mono ?_; rintro e w' ⟨rfl, hw⟩; subst w')
    refine bodyPost_ret (v := .tuple #[.slice none 0 0, .int .i64 15]) ?_ rfl ⟨rfl, HB.out⟩
    obtain ⟨c1, c2⟩ := HC.out
    simp [results, Try.f22, go_sem, c1, c2]
end Go.Proofs.Ytbahbhaoimabdaa
