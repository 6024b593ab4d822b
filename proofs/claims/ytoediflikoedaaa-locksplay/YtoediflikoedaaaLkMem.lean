/-
  A table of locks, as it lies in memory: what each of its blocks is.
-/
import Derived.Test.YtoediflikoedaaaLkA
namespace Go.Proofs.Ytoediflikoedaaa
open Go Go.Proofs Go.RowKit Go.Shelf
open Go.ChangeMaps (setBlock)
abbrev ptV (b : Nat) : Value := .pointer (some ⟨b, 0, none⟩)
/-- A lock as a value, and its cells. -/
def lkV (l : Lk) : Value := .agg #[.int .i64 l.th, .int .i64 l.tg, .bool l.al]
def lkC (l : Lk) : List Value := [.int .i64 l.th, .int .i64 l.tg, .bool l.al]
def Ly (L : List Lk) : List Value := L.flatMap lkC
theorem Ly_length (L : List Lk) : (Ly L).length = L.length * 3 := by
  induction L with
  | nil => rfl
  | cons l r ih =>
    show (lkC l ++ Ly r).length = _
    simp [lkC, ih]
    omega
theorem Ly_append (L M : List Lk) : Ly (L ++ M) = Ly L ++ Ly M := by simp [Ly]
theorem Ly_cons (l : Lk) (L : List Lk) : Ly (l :: L) = lkC l ++ Ly L := rfl
def Lk.wf (l : Lk) : Prop := (Lit.int .i64 l.th).wf = true ∧ (Lit.int .i64 l.tg).wf = true
/-- A row of locks in block k: the slice may begin anywhere, and reaches to the block's end. -/
def RwAt (W : World) (k : Nat) (v : Value) (L : List Lk) : Prop :=
  ∃ off cap cur, v = .slice (some ⟨k, off, none⟩) L.length cap ∧ W.heap[k]? = some (.cells cur 31 (0, 0)) ∧ L.length ≤ cap ∧ off + cap * 3 ≤ cur.size ∧ cap ≤ maxLen ∧ ∀ j u, (Ly L)[j]? = some u → cur[off + j]? = some u
inductive Sh where
  | tb (hm rm wm : Option Nat)
  | hmap (n : Nat) (f : Int → Option Nat)
  | rmap (n : Nat) (f : Int → Option Nat)
  | wmap (n : Nat) (f : Int → Option Lk)
  | hd (i : Int) (m : Nat) (al : Bool)
  | th (i : Int) (S : List Int)
  | rw (i : Int) (v : Value)
  | ls (i : Int) (v : Value) (L : List Lk)
def Sh.At (W : World) (k : Nat) : Sh → Prop
  | .tb hm rm wm => W.heap[k]? = some (.cells #[.map hm, .map rm, .map wm] 54 (0, 0))
  | .hmap n f => MAt W 3 k n (intF ptV f)
  | .rmap n f => MAt W 3 k n (intF ptV f)
  | .wmap n f => MAt W 3 k n (intF lkV f)
  | .hd _ m al => W.heap[k]? = some (.cells #[.map (some m), .bool al] 68 (0, 0))
  | .th _ S => StAt W (some k) S
  | .rw _ v => W.heap[k]? = some (.cells #[v] 76 (0, 0))
  | .ls _ v L => RwAt W k v L
theorem Sh.At.kept {W W' : World} {k : Nat} {c : Sh} (h : c.At W k) (hk : W'.heap[k]? = W.heap[k]?) : c.At W' k := by
  cases c with
  | tb hm rm wm => exact hk.trans h
  | hmap n f => exact MAt.kept h hk
  | rmap n f => exact MAt.kept h hk
  | wmap n f => exact MAt.kept h hk
  | hd i m al => exact hk.trans h
  | th i S => exact StAt.kept (m := some k) (S := S) h (fun b hb => by cases hb; exact hk)
  | rw i v => exact hk.trans h
  | ls i v L =>
    obtain ⟨off, cap, cur, h1, h2, h3⟩ := h
    exact ⟨off, cap, cur, h1, hk.trans h2, h3⟩
/-- Each block is what it is told to be; F: those that may be. -/
def Lies (F : Nat → Prop) (W : World) (σ : Nat → Option Sh) : Prop := ∀ k c, σ k = some c → F k ∧ k < W.heap.size ∧ c.At W k
def upd (σ : Nat → Option Sh) (k : Nat) (c : Sh) : Nat → Option Sh := fun j => if j = k then some c else σ j
theorem upd_at (σ : Nat → Option Sh) (k : Nat) (c : Sh) : upd σ k c k = some c := by simp [upd]
theorem upd_ne (σ : Nat → Option Sh) {k j : Nat} (c : Sh) (h : j ≠ k) : upd σ k c j = σ j := by simp [upd, h]
theorem upd_keep {σ : Nat → Option Sh} {k j : Nat} {c d : Sh} (e : Sh) (h : σ j = some c) (hk : σ k = some d) (hne : c ≠ d) : upd σ k e j = some c := by
  rw [upd_ne, h]
  intro q
  rw [q, hk] at h
  exact hne (Option.some.inj h).symm
theorem upd_fresh {σ : Nat → Option Sh} {k j : Nat} {c : Sh} (e : Sh) (h : σ j = some c) (hk : σ k = none) : upd σ k e j = some c := by
  rw [upd_ne, h]
  intro q
  rw [q, hk] at h
  cases h
section
variable {F F' S : Nat → Prop} {W W' : World} {σ σ' : Nat → Option Sh}
theorem Lies.step (h : Lies F W σ) (hO : Only S W W') (hF : ∀ k, F k → F' k) (hσ : ∀ k c, σ' k = some c → (σ k = some c ∧ ¬ S k) ∨ (F' k ∧ k < W'.heap.size ∧ c.At W' k)) : Lies F' W' σ' := by
  intro k c hk
  rcases hσ k c hk with ⟨h1, h2⟩ | h1
  · obtain ⟨a, b, d⟩ := h k c h1
    exact ⟨hF k a, Nat.lt_of_lt_of_le b hO.size, d.kept (hO.block k b h2)⟩
  · exact h1
theorem Lies.new (h : Lies F W σ) {k : Nat} (hk : W.heap.size ≤ k) : σ k = none := by
  cases e : σ k with
  | none => rfl
  | some c => have := (h k c e).2.1; omega
/-- One block turns. -/
theorem Lies.turn (h : Lies F W σ) {k : Nat} {c : Sh} (hO : Only (fun j => j = k) W W') (hF : F k) (hk : k < W'.heap.size) (hc : c.At W' k) : Lies F W' (upd σ k c) := by
  refine h.step hO (fun _ q => q) (fun j d hj => ?_)
  by_cases e : j = k
  · subst e
    rw [upd_at] at hj
    cases hj
    exact .inr ⟨hF, hk, hc⟩
  · rw [upd_ne _ _ e] at hj
    exact .inl ⟨hj, e⟩
/-- A block more. -/
theorem Lies.more (h : Lies F W σ) {k : Nat} {c : Sh} (hO : Only (fun _ => False) W W') (hk : W.heap.size ≤ k) (hk' : k < W'.heap.size) (hc : c.At W' k) (hF : ∀ j, F j → F' j) (hFk : F' k) : Lies F' W' (upd σ k c) := by
  refine h.step hO hF (fun j d hj => ?_)
  by_cases e : j = k
  · subst e
    rw [upd_at] at hj
    cases hj
    exact .inr ⟨hFk, hk', hc⟩
  · rw [upd_ne _ _ e] at hj
    exact .inl ⟨hj, fun q => q⟩
theorem Lies.only (h : Lies F W σ) (hO : Only S W W') (hS : ∀ k, F k → k < W.heap.size → ¬ S k) : Lies F W' σ :=
  h.step hO (fun _ q => q) (fun k c hk => .inl ⟨hk, hS k (h k c hk).1 (h k c hk).2.1⟩)
theorem Lies.mono (h : Lies F W σ) (hF : ∀ k, k < W.heap.size → F k → F' k) : Lies F' W σ := fun k c hk => ⟨hF k (h k c hk).2.1 (h k c hk).1, (h k c hk).2⟩
end
structure Hx where
  b : Nat
  m : Nat
  S : List Int
  al : Bool
structure Rx where
  b : Nat
  v : Value
  L : List Lk
structure Td where
  hm : Option Nat
  rm : Option Nat
  wm : Option Nat
  nh : Nat
  nr : Nat
  nw : Nat
  held : Int → Option Hx
  rows : Int → Option Rx
  waits : Int → Option Lk
def Td.abs (D : Td) : Ta := ⟨fun i => (D.held i).map (fun x => (x.S, x.al)), fun i => (D.rows i).map (fun x => x.L), D.waits⟩
structure Rep (σ : Nat → Option Sh) (t : Nat) (D : Td) : Prop where
  tb : σ t = some (.tb D.hm D.rm D.wm)
  hm0 : D.hm = none → D.nh = 0 ∧ ∀ i, D.held i = none
  hm1 : ∀ b, D.hm = some b → σ b = some (.hmap D.nh (fun i => (D.held i).map (fun x => x.b)))
  rm0 : D.rm = none → D.nr = 0 ∧ ∀ i, D.rows i = none
  rm1 : ∀ b, D.rm = some b → σ b = some (.rmap D.nr (fun i => (D.rows i).map (fun x => x.b)))
  wm0 : D.wm = none → D.nw = 0 ∧ ∀ i, D.waits i = none
  wm1 : ∀ b, D.wm = some b → σ b = some (.wmap D.nw D.waits)
  hd : ∀ i x, D.held i = some x → σ x.b = some (.hd i x.m x.al)
  th : ∀ i x, D.held i = some x → σ x.m = some (.th i x.S)
  rw : ∀ i x, D.rows i = some x → σ x.b = some (.rw i x.v)
  ls : ∀ i x, D.rows i = some x → (x.v = .slice none 0 0 ∧ x.L = []) ∨ ∃ g, x.v.ownBlock = some g ∧ σ g = some (.ls i x.v x.L)
/-- The table at t lies so; F: the blocks that it may own. -/
def TbAt (F : Nat → Prop) (W : World) (t : Nat) (D : Td) : Prop := ∃ σ, Lies F W σ ∧ Rep σ t D
section
variable {F F' S : Nat → Prop} {W W' : World} {t : Nat} {D : Td}
theorem TbAt.only (h : TbAt F W t D) (hO : Only S W W') (hS : ∀ k, F k → k < W.heap.size → ¬ S k) : TbAt F W' t D := by
  obtain ⟨σ, h1, h2⟩ := h
  exact ⟨σ, h1.only hO hS, h2⟩
theorem TbAt.mono (h : TbAt F W t D) (hF : ∀ k, k < W.heap.size → F k → F' k) : TbAt F' W t D := by
  obtain ⟨σ, h1, h2⟩ := h
  exact ⟨σ, h1.mono hF, h2⟩
theorem TbAt.below (h : TbAt F W t D) (hB : Below W.heap.size W W') : TbAt F W' t D := h.only (Only.of_new (fun _ => False) hB) (fun _ _ _ q => q)
theorem TbAt.top (h : TbAt F W t D) : F t ∧ t < W.heap.size ∧ W.heap[t]? = some (.cells #[.map D.hm, .map D.rm, .map D.wm] 54 (0, 0)) := by
  obtain ⟨σ, h1, h2⟩ := h
  exact h1 t _ h2.tb
/-- The three maps' cells. -/
theorem TbAt.cells (h : TbAt F W t D) : W.cell? ⟨t, 0, none⟩ = some (.map D.hm) ∧ W.cell? ⟨t, 1, none⟩ = some (.map D.rm) ∧ W.cell? ⟨t, 2, none⟩ = some (.map D.wm) := by
  have := h.top.2.2
  refine ⟨?_, ?_, ?_⟩ <;> (rw [blk_cell this]; rfl)
theorem TbAt.hx (h : TbAt F W t D) {i : Int} {x : Hx} (hi : D.held i = some x) : (F x.b ∧ x.b < W.heap.size ∧ W.heap[x.b]? = some (.cells #[.map (some x.m), .bool x.al] 68 (0, 0))) ∧ F x.m ∧ x.m < W.heap.size ∧ StAt W (some x.m) x.S := by
  obtain ⟨σ, h1, h2⟩ := h
  exact ⟨h1 _ _ (h2.hd i x hi), h1 _ _ (h2.th i x hi)⟩
theorem TbAt.rx (h : TbAt F W t D) {i : Int} {x : Rx} (hi : D.rows i = some x) : (F x.b ∧ x.b < W.heap.size ∧ W.heap[x.b]? = some (.cells #[x.v] 76 (0, 0))) ∧ ((x.v = .slice none 0 0 ∧ x.L = []) ∨ ∃ g, x.v.ownBlock = some g ∧ g ≠ x.b ∧ F g ∧ g < W.heap.size ∧ RwAt W g x.v x.L) := by
  obtain ⟨σ, h1, h2⟩ := h
  refine ⟨h1 _ _ (h2.rw i x hi), ?_⟩
  rcases h2.ls i x hi with h | ⟨g, hg, hs⟩
  · exact .inl h
  · refine .inr ⟨g, hg, fun e => ?_, h1 _ _ hs⟩
    have := h2.rw i x hi
    rw [← e, hs] at this
    cases this
theorem TbAt.hmapAt (h : TbAt F W t D) : MapAt W D.hm D.nh (intF (fun x : Hx => ptV x.b) D.held) := by
  obtain ⟨σ, h1, h2⟩ := h
  cases e : D.hm with
  | none =>
    obtain ⟨a, b⟩ := h2.hm0 e
    exact ⟨a, fun l => by unfold intF; split <;> simp [b]⟩
  | some b =>
    have : MAt W 3 b D.nh (intF ptV (fun i => (D.held i).map (fun x => x.b))) := (h1 _ _ (h2.hm1 b e)).2.2
    exact this.say (fun _ l _ => by unfold intF; split <;> simp [Function.comp_def])
theorem TbAt.rmapAt (h : TbAt F W t D) : MapAt W D.rm D.nr (intF (fun x : Rx => ptV x.b) D.rows) := by
  obtain ⟨σ, h1, h2⟩ := h
  cases e : D.rm with
  | none =>
    obtain ⟨a, b⟩ := h2.rm0 e
    exact ⟨a, fun l => by unfold intF; split <;> simp [b]⟩
  | some b =>
    have : MAt W 3 b D.nr (intF ptV (fun i => (D.rows i).map (fun x => x.b))) := (h1 _ _ (h2.rm1 b e)).2.2
    exact this.say (fun _ l _ => by unfold intF; split <;> simp [Function.comp_def])
theorem TbAt.wmapAt (h : TbAt F W t D) : MapAt W D.wm D.nw (intF lkV D.waits) := by
  obtain ⟨σ, h1, h2⟩ := h
  cases e : D.wm with
  | none =>
    obtain ⟨a, b⟩ := h2.wm0 e
    exact ⟨a, fun l => by unfold intF; split <;> simp [b]⟩
  | some b => exact (h1 _ _ (h2.wm1 b e)).2.2
theorem TbAt.hown (h : TbAt F W t D) {b : Nat} (e : D.hm = some b) : F b ∧ b < W.heap.size ∧ b ≠ t := by
  obtain ⟨σ, h1, h2⟩ := h
  refine ⟨(h1 _ _ (h2.hm1 b e)).1, (h1 _ _ (h2.hm1 b e)).2.1, fun q => ?_⟩
  have := h2.hm1 b e
  rw [q, h2.tb] at this
  cases this
theorem TbAt.rown (h : TbAt F W t D) {b : Nat} (e : D.rm = some b) : F b ∧ b < W.heap.size ∧ b ≠ t := by
  obtain ⟨σ, h1, h2⟩ := h
  refine ⟨(h1 _ _ (h2.rm1 b e)).1, (h1 _ _ (h2.rm1 b e)).2.1, fun q => ?_⟩
  have := h2.rm1 b e
  rw [q, h2.tb] at this
  cases this
theorem TbAt.wown (h : TbAt F W t D) {b : Nat} (e : D.wm = some b) : F b ∧ b < W.heap.size ∧ b ≠ t := by
  obtain ⟨σ, h1, h2⟩ := h
  refine ⟨(h1 _ _ (h2.wm1 b e)).1, (h1 _ _ (h2.wm1 b e)).2.1, fun q => ?_⟩
  have := h2.wm1 b e
  rw [q, h2.tb] at this
  cases this
end
theorem zeroP (W : World) : (zeroValue 60).run Try.prog W = .ok (.pointer none) W := by kernel_rfl
theorem zeroR (W : World) : (zeroValue 55).run Try.prog W = .ok (.pointer none) W := by kernel_rfl
theorem zeroL (W : World) : (zeroValue 31).run Try.prog W = .ok (.agg #[.int .i64 0, .int .i64 0, .bool false]) W := by kernel_rfl
def optP (o : Option Nat) : Value := match o with
  | none => .pointer none
  | some b => ptV b
def Lk.zero : Lk := ⟨0, 0, false⟩
section
variable {F : Nat → Prop} {W : World} {t : Nat} {D : Td}
theorem TbAt.lookH (h : TbAt F W t D) {x : Int} (hx : (Lit.int .i64 x).wf = true) : (Instr.lookup 50 (.map D.hm) (.int .i64 x) false).run Try.prog W = .ok (optP ((D.held x).map (fun y => y.b))) W := by
  have hm := h.hmapAt
  cases e : D.hm with
  | none =>
    rw [e] at hm
    rw [Maps.look_nil false keyed3 Try.underlying50 (zeroP W) (key_int hx)]
    have := hm.2 (.int .i64 x)
    rw [intF_int] at this
    cases e2 : D.held x with
    | none => rfl
    | some y => rw [e2] at this; cases this
  | some b =>
    rw [e] at hm
    have hm : MAt W 3 b D.nh _ := hm
    rw [hm.look keyed3 Try.underlying50 (zeroP W) (key_int hx), intF_int]
    cases D.held x <;> rfl
theorem TbAt.lookR (h : TbAt F W t D) {x : Int} (hx : (Lit.int .i64 x).wf = true) : (Instr.lookup 51 (.map D.rm) (.int .i64 x) false).run Try.prog W = .ok (optP ((D.rows x).map (fun y => y.b))) W := by
  have hm := h.rmapAt
  cases e : D.rm with
  | none =>
    rw [e] at hm
    rw [Maps.look_nil false keyed3 Try.underlying51 (zeroR W) (key_int hx)]
    have := hm.2 (.int .i64 x)
    rw [intF_int] at this
    cases e2 : D.rows x with
    | none => rfl
    | some y => rw [e2] at this; cases this
  | some b =>
    rw [e] at hm
    have hm : MAt W 3 b D.nr _ := hm
    rw [hm.look keyed3 Try.underlying51 (zeroR W) (key_int hx), intF_int]
    cases D.rows x <;> rfl
theorem TbAt.lookW (h : TbAt F W t D) {x : Int} (hx : (Lit.int .i64 x).wf = true) : (Instr.lookup 52 (.map D.wm) (.int .i64 x) true).run Try.prog W = .ok (.tuple #[lkV ((D.waits x).getD Lk.zero), .bool (D.waits x).isSome]) W := by
  have hm := h.wmapAt
  cases e : D.wm with
  | none =>
    rw [e] at hm
    rw [Maps.look_nil true keyed3 Try.underlying52 (zeroL W) (key_int hx)]
    have := hm.2 (.int .i64 x)
    rw [intF_int] at this
    cases e2 : D.waits x with
    | none => rfl
    | some y => rw [e2] at this; cases this
  | some b =>
    rw [e] at hm
    have hm : MAt W 3 b D.nw _ := hm
    rw [hm.look2 keyed3 Try.underlying52 (zeroL W) (key_int hx), intF_int]
    cases D.waits x <;> rfl
end
end Go.Proofs.Ytoediflikoedaaa
