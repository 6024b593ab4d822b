/-
  image: what it holds while it works.
-/
import Derived.Test.YtejnmpnioeamhaaGreatWhRepair
namespace Go.Proofs.YtejnmpnioeamhaaGreat
open Go Go.Proofs Go.RowKit Go.Shelf
namespace Mk
open Sup (superL headL maskL nI nD bD)
open Din (inoL fineL inoV NAt)
open Ent (blockL okB EAt Ey entV noS noE)
theorem owns_block {W W' : World} {B g n cap : Nat} {cs : List Value} (h : W.ownsRow B 5 1 (.slice (some ⟨g, 0, none⟩) n cap) n cs) (e : W'.heap[g]? = W.heap[g]?) : W'.ownsRow B 5 1 (.slice (some ⟨g, 0, none⟩) n cap) n cs := by
  obtain ⟨h1, h2⟩ := h
  refine ⟨h1, ?_⟩
  rcases h2 with h2 | ⟨g', cap', cur, hv, hg, hh, hnc, hm, hsz, ht⟩
  · exact .inl h2
  · have hv' := hv
    simp only [Value.slice.injEq, Option.some.injEq, Addr.mk.injEq] at hv
    obtain ⟨⟨rfl, -, -⟩, -, rfl⟩ := hv
    exact .inr ⟨g, cap, cur, hv', hg, e.trans hh, hnc, hm, hsz, ht⟩
theorem infoS : (Tryz.prog.info? 26).map (fun i => (i.zero, i.size, i.bytes)) = some (some (.slice none 0 0), 1, 24) := by kernel_rfl
def nilS (n : Nat) : List Value := List.replicate n (.slice none 0 0)
/-- make([][]byte, n). -/
theorem makes_run (w : World) (n : Nat) (hn : n ≤ 1000) : (Instr.makeSlice 95 (.int .i64 n) (.int .i64 n)).run Tryz.prog w = .ok (.slice (some ⟨w.heap.size, 0, none⟩) n n) (w.alloc (.cells (nilS n).toArray 26)) := by
  cases hi : Tryz.prog.info? 26 with
  | none => have := infoS; rw [hi] at this; cases this
  | some i0 =>
    have h2 := infoS
    rw [hi] at h2
    simp at h2
    obtain ⟨hz0, hz1, hz2⟩ := h2
    rw [run_makeSlice (P := Tryz.prog) w 95 26 i0 (.slice none 0 0) Tryz.underlying95 hi hz0 .i64 .i64 n n (by omega) (by omega) (by rw [hz1]; simp; omega) (by rw [hz2]; omega) (by omega)]
    have e : madeCells (Value.slice none 0 0).cells ((n : Int).toNat * i0.size) = (nilS n).toArray := by
      rw [hz1]
      apply Array.ext'
      rw [show (nilS n).toArray.toList = List.replicate n (Value.slice none 0 0) by simp [nilS], List.eq_replicate_iff]
      simp [madeCells, Value.cells, Nat.mod_one]
    rw [e]
    simp
/-- A row of rows of bytes: the first K stand there. -/
def RwAt (W : World) (B gi N K : Nat) (f : Nat → List Int) : Prop :=
  ∃ cur : Array Value, W.heap[gi]? = some (.cells cur 26 (0, 0)) ∧ cur.size = N ∧ ∀ j, j < K → ∃ a c, cur[j]? = some (.slice (some a) (f j).length c) ∧ BAt W (some a) (f j).length (f j) ∧ B ≤ a.block
theorem RwAt.lt {W : World} {B gi N K : Nat} {f : Nat → List Int} (h : RwAt W B gi N K f) : gi < W.heap.size := by
  obtain ⟨cur, h1, -⟩ := h
  exact lt_of_block h1
theorem RwAt.only {S : Nat → Prop} {W W' : World} {B gi N K : Nat} {f : Nat → List Int} (h : RwAt W B gi N K f) (ho : Only S W W') (h1 : ¬ S gi) (h2 : ∀ k, B ≤ k → k < W.heap.size → ¬ S k) : RwAt W' B gi N K f := by
  obtain ⟨cur, k1, k2, k3⟩ := h
  refine ⟨cur, (ho.block _ (lt_of_block k1) h1).trans k1, k2, fun j hj => ?_⟩
  obtain ⟨a, c, e1, e2, e3⟩ := k3 j hj
  exact ⟨a, c, e1, e2.only ho (fun a' e hl => by cases e; exact h2 _ e3 hl), e3⟩
theorem RwAt.put {W : World} {B gi N K : Nat} {f : Nat → List Int} (h : RwAt W B gi N K f) (hgB : gi < B) (j : Nat) (hj : j < N) (a : Addr) (m c : Nat) (ys : List Int) (hb : BAt W (some a) m ys) (hB : B ≤ a.block) (K' : Nat) (f' : Nat → List Int) (hf : ∀ i, i < K' → (i = j ∧ f' i = ys) ∨ (i ≠ j ∧ i < K ∧ f' i = f i)) :
    RwAt (W.setCell ⟨gi, j, none⟩ (.slice (some a) m c)) B gi N K' f' := by
  obtain ⟨cur, k1, k2, k3⟩ := h
  have ho := set_only W gi j (.slice (some a) m c)
  refine ⟨cur.setIfInBounds j (.slice (some a) m c), blk_set k1, by simp [k2], fun i hi => ?_⟩
  rcases hf i hi with ⟨rfl, e⟩ | ⟨hne, hK, e⟩
  · refine ⟨a, c, ?_, ?_, hB⟩
    · rw [e, hb.1]
      simp [k2, hj]
    · rw [e, hb.1]
      exact hb.only ho (fun a' e' _ => by cases e'; omega)
  · obtain ⟨a2, c2, e1, e2, e3⟩ := k3 i hK
    refine ⟨a2, c2, ?_, ?_, e3⟩
    · rw [e, ← e1]
      simp [Ne.symm hne]
    · rw [e]
      exact e2.only ho (fun a' e' _ => by cases e'; omega)
theorem RwAt.get {W : World} {B gi N K : Nat} {f : Nat → List Int} (h : RwAt W B gi N K f) (j m : Nat) (hj : j < K) (hm : (f j).length = m) : ∃ a c, W.cell? ⟨gi, j, none⟩ = some (.slice (some a) m c) ∧ BAt W (some a) m (f j) := by
  obtain ⟨cur, k1, k2, k3⟩ := h
  obtain ⟨a, c, e1, e2, e3⟩ := k3 j hj
  rw [hm] at e1 e2
  exact ⟨a, c, by rw [blk_cell k1]; exact e1, e2⟩
theorem RwAt.free {W : World} {B gi N K : Nat} {f : Nat → List Int} (h : RwAt W B gi N K f) (j : Nat) (hj : j < N) : (∃ v, W.cell? ⟨gi, j, none⟩ = some v) ∧ W.frozen? ⟨gi, j, none⟩ = false := by
  obtain ⟨cur, k1, k2, k3⟩ := h
  refine ⟨⟨cur[j]'(by omega), ?_⟩, blk_free k1 j⟩
  rw [blk_cell k1]
  simp [k2, hj]
/-- image between two steps: w is the world that it was called in. -/
structure IgAt (w : World) (b3 g4 gi gt B n cap N Ki Kd : Nat) (G I D : Int) (xs : List Int) (fi fd : Nat → List Int) (W : World) : Prop where
  below : Below w.heap.size w W
  geo : GAt b3 G I D W
  out : W.ownsRow w.heap.size 5 1 (.slice (some ⟨g4, 0, none⟩) n cap) n (By xs)
  ri : RwAt W B gi N Ki fi
  rd : RwAt W B gt N Kd fd
  ord : w.heap.size ≤ b3 ∧ b3 < g4 ∧ g4 < gi ∧ gi < gt ∧ gt < B ∧ B ≤ W.heap.size
section
variable {w : World} {b3 g4 gi gt B n cap N Ki Kd : Nat} {G I D : Int} {xs : List Int} {fi fd : Nat → List Int} {W W' : World}
theorem IgAt.only {S : Nat → Prop} (h : IgAt w b3 g4 gi gt B n cap N Ki Kd G I D xs fi fd W) (ho : Only S W W') (h1 : ∀ k, S k → W.heap.size ≤ k) : IgAt w b3 g4 gi gt B n cap N Ki Kd G I D xs fi fd W' := by
  obtain ⟨o1, o2, o3, o4, o5, o6⟩ := h.ord
  have hs := h.below.size
  have hz := ho.size
  refine ⟨h.below.trans (ho.below hs (fun k e => by have := h1 k e; omega)), (ho.block _ h.geo.lt (fun e => by have := h1 _ e; have := h.geo.lt; omega)).trans h.geo, owns_block h.out (ho.block _ (by omega) (fun e => by have := h1 _ e; omega)), h.ri.only ho (fun e => by have := h1 _ e; omega) (fun k _ hl e => by have := h1 _ e; omega), h.rd.only ho (fun e => by have := h1 _ e; omega) (fun k _ hl e => by have := h1 _ e; omega), o1, o2, o3, o4, o5, by omega⟩
theorem IgAt.new (h : IgAt w b3 g4 gi gt B n cap N Ki Kd G I D xs fi fd W) (hB : Below W.heap.size W W') : IgAt w b3 g4 gi gt B n cap N Ki Kd G I D xs fi fd W' := h.only (Only.of_new (fun _ => False) hB) (fun _ e => e.elim)
theorem IgAt.drew (h : IgAt w b3 g4 gi gt B n cap N Ki Kd G I D xs fi fd W) : IgAt w b3 g4 gi gt B n cap N Ki Kd G I D xs fi fd W.drew := ⟨h.below.drew, h.geo, h.out, h.ri, h.rd, h.ord⟩
/-- copy(out[o:], c) of what stands there. -/
theorem IgAt.copy (h : IgAt w b3 g4 gi gt B n cap N Ki Kd G I D xs fi fd W) (o m c : Nat) (ys : List Int) (ao : Option Addr) (hb : BAt W ao m ys) (hm : 0 < m) (ho : o + m ≤ n) (hp : piece xs o m = ys) :
    ∃ W', (Builtin.copy_ #[26, 26] 3 #[.slice (some ⟨g4, o, none⟩) (n - o) (cap - o), .slice ao m c]).run Tryz.prog W = .ok (.int .i64 m) W' ∧ IgAt w b3 g4 gi gt B n cap N Ki Kd G I D xs fi fd W' := by
  obtain ⟨o1, o2, o3, o4, o5, o6⟩ := h.ord
  obtain ⟨W', k1, k2, k3⟩ := copy_same W _ g4 n cap o m c xs ys ao h.out hb hm ho hp
  have hz := k3.size
  exact ⟨W', k1, h.below.trans (k3.below h.below.size (fun k e => by omega)), (k3.block _ h.geo.lt (by omega)).trans h.geo, k2, h.ri.only k3 (by omega) (fun k _ _ => by omega), h.rd.only k3 (by omega) (fun k _ _ => by omega), o1, o2, o3, o4, o5, by omega⟩
theorem IgAt.puti (h : IgAt w b3 g4 gi gt B n cap N Ki Kd G I D xs fi fd W) (j : Nat) (hj : j < N) (a : Addr) (m c : Nat) (ys : List Int) (hb : BAt W (some a) m ys) (hB : B ≤ a.block) (K' : Nat) (f' : Nat → List Int) (hf : ∀ i, i < K' → (i = j ∧ f' i = ys) ∨ (i ≠ j ∧ i < Ki ∧ f' i = fi i)) :
    (Instr.storeAt 26 (.pointer (some ⟨gi, j, none⟩)) (.slice (some a) m c)).run Tryz.prog W = .ok () (W.setCell ⟨gi, j, none⟩ (.slice (some a) m c)) ∧ IgAt w b3 g4 gi gt B n cap N K' Kd G I D xs f' fd (W.setCell ⟨gi, j, none⟩ (.slice (some a) m c)) := by
  obtain ⟨o1, o2, o3, o4, o5, o6⟩ := h.ord
  obtain ⟨⟨v, c1⟩, c2⟩ := h.ri.free j hj
  have ho := set_only W gi j (.slice (some a) m c)
  have hz := ho.size
  refine ⟨by go_simp, h.below.trans (ho.below h.below.size (fun k e => by omega)), (ho.block _ h.geo.lt (by omega)).trans h.geo, owns_block h.out (ho.block _ (by omega) (by omega)), h.ri.put (by omega) j hj a m c ys hb hB K' f' hf, h.rd.only ho (by omega) (fun k _ _ => by omega), o1, o2, o3, o4, o5, by omega⟩
theorem IgAt.putd (h : IgAt w b3 g4 gi gt B n cap N Ki Kd G I D xs fi fd W) (j : Nat) (hj : j < N) (a : Addr) (m c : Nat) (ys : List Int) (hb : BAt W (some a) m ys) (hB : B ≤ a.block) (K' : Nat) (f' : Nat → List Int) (hf : ∀ i, i < K' → (i = j ∧ f' i = ys) ∨ (i ≠ j ∧ i < Kd ∧ f' i = fd i)) :
    (Instr.storeAt 26 (.pointer (some ⟨gt, j, none⟩)) (.slice (some a) m c)).run Tryz.prog W = .ok () (W.setCell ⟨gt, j, none⟩ (.slice (some a) m c)) ∧ IgAt w b3 g4 gi gt B n cap N Ki K' G I D xs fi f' (W.setCell ⟨gt, j, none⟩ (.slice (some a) m c)) := by
  obtain ⟨o1, o2, o3, o4, o5, o6⟩ := h.ord
  obtain ⟨⟨v, c1⟩, c2⟩ := h.rd.free j hj
  have ho := set_only W gt j (.slice (some a) m c)
  have hz := ho.size
  refine ⟨by go_simp, h.below.trans (ho.below h.below.size (fun k e => by omega)), (ho.block _ h.geo.lt (by omega)).trans h.geo, owns_block h.out (ho.block _ (by omega) (by omega)), h.ri.only ho (by omega) (fun k _ _ => by omega), h.rd.put (by omega) j hj a m c ys hb hB K' f' hf, o1, o2, o3, o4, o5, by omega⟩
/-- make([]byte, m), for a row. -/
theorem IgAt.made (h : IgAt w b3 g4 gi gt B n cap N Ki Kd G I D xs fi fd W) (m : Nat) (hm : m ≤ 1000) :
    ∃ g W', (Instr.makeSlice 26 (.int .i64 m) (.int .i64 m)).run Tryz.prog W = .ok (.slice (some ⟨g, 0, none⟩) m m) W' ∧ IgAt w b3 g4 gi gt B n cap N Ki Kd G I D xs fi fd W' ∧ BAt W' (some ⟨g, 0, none⟩) m (zeros m) ∧ B ≤ g :=
  ⟨_, _, make_run W m (by omega), h.new ((Below.refl _ W).alloc (Nat.le_refl _) _), RAt.full (blk_new W _) (by simp [zeros]), h.ord.2.2.2.2.2⟩
end
/-- Its first steps. -/
theorem image_start (w : World) (g n N : Nat) (I D : Int) (xs : List Int) (hr : RAt w g xs) (hl : xs.length = n) (hn0 : 0 < n) (hn : n ≤ 16777216) (hN : N ≤ 1000) (W1 : World) (hW1 : W1 = w.alloc (.cells #[.int .i64 N, .int .i64 I, .int .i64 D] 23)) (f1 f2 : Nat → List Int) :
    ∃ g4 cap gi gt B W2 W3 W4, (Builtin.append_ #[26, 26] 26 #[.slice none 0 0, .slice (some ⟨g, 0, none⟩) n n]).run Tryz.prog W1 = .ok (.slice (some ⟨g4, 0, none⟩) n cap) W2 ∧ (Instr.makeSlice 95 (.int .i64 N) (.int .i64 N)).run Tryz.prog W2 = .ok (.slice (some ⟨gi, 0, none⟩) N N) W3 ∧ (Instr.makeSlice 95 (.int .i64 N) (.int .i64 N)).run Tryz.prog W3 = .ok (.slice (some ⟨gt, 0, none⟩) N N) W4 ∧
      G3 w.heap.size N I D W2 ∧ G3 w.heap.size N I D W3 ∧ n ≤ cap ∧ IgAt w w.heap.size g4 gi gt B n cap N 0 0 N I D xs f1 f2 W4 := by
  subst hW1
  have hb0 : Below w.heap.size w (w.alloc (.cells #[.int .i64 N, .int .i64 I, .int .i64 D] 23)) := (Below.refl _ w).alloc (Nat.le_refl _) _
  have hg1 := GAt.new w N I D
  obtain ⟨v, W2, r1, r2, r3⟩ := append_nil_below (w.alloc (.cells #[.int .i64 N, .int .i64 I, .int .i64 D] 23)) (some ⟨g, 0, none⟩) n n xs ((hr.below hb0 hr.lt).full hl) (by omega) (by simp)
  have r2' := r2
  obtain ⟨q1, q2⟩ := r2
  rcases q2 with ⟨-, q2⟩ | ⟨g4, cap, cur, rfl, q3, q4, q5, q6, q7, q8⟩
  · omega
  have hg2 := hg1.below r3 hg1.lt
  have hb2 := hb0.trans (r3.mono hb0.size)
  have hB3 : Below W2.heap.size W2 (W2.alloc (.cells (nilS N).toArray 26)) := (Below.refl _ W2).alloc (Nat.le_refl _) _
  have hB4 : Below W2.heap.size W2 ((W2.alloc (.cells (nilS N).toArray 26)).alloc (.cells (nilS N).toArray 26)) := hB3.alloc (by simp) _
  have hg3 := hg2.below hB3 hg2.lt
  have hg4 := hg2.below hB4 hg2.lt
  have hsz : (w.alloc (.cells #[.int .i64 N, .int .i64 I, .int .i64 D] 23)).heap.size = w.heap.size + 1 := by simp
  have hlt4 := lt_of_block q4
  rw [hsz] at q3
  have i3 := blk_new W2 (.cells (nilS N).toArray 26)
  have i4 : ((W2.alloc (.cells (nilS N).toArray 26)).alloc (.cells (nilS N).toArray 26)).heap[W2.heap.size]? = some (.cells (nilS N).toArray 26 (0, 0)) := (((Below.refl _ (W2.alloc (.cells (nilS N).toArray 26))).alloc (Nat.le_refl _) (.cells (nilS N).toArray 26)).block _ (by simp)).trans i3
  have i5 := blk_new (W2.alloc (.cells (nilS N).toArray 26)) (.cells (nilS N).toArray 26)
  have ho := owns_block (W' := (W2.alloc (.cells (nilS N).toArray 26)).alloc (.cells (nilS N).toArray 26)) r2' (hB4.block _ hlt4)
  refine ⟨g4, cap, _, _, W2.heap.size + 2, W2, _, _, r1, makes_run W2 N hN, makes_run _ N hN, hg2.g3, hg3.g3, q5, hb2.trans (hB4.mono hb2.size), hg4, ?_, ⟨_, i4, by simp [nilS], fun j hj => by omega⟩, ⟨_, i5, by simp [nilS], fun j hj => by omega⟩, Nat.le_refl _, by omega, by omega, by simp, by simp, by simp⟩
  obtain ⟨u1, u2⟩ := ho
  refine ⟨u1, ?_⟩
  rcases u2 with u2 | ⟨a1, a2, a3, a4, a5, a6⟩
  · exact .inl u2
  · exact .inr ⟨a1, a2, a3, a4, by rw [hsz] at a5; omega, a6⟩
end Mk
end Go.Proofs.YtejnmpnioeamhaaGreat
