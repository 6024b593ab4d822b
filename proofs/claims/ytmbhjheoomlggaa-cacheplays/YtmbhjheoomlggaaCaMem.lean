/-
  A cache as it lies in memory.
-/
import Derived.Test.YtmbhjheoomlggaaCaLink
namespace Go.Proofs.Ytmbhjheoomlggaa
open Go Go.Proofs Go.RowKit Go.Shelf
open Go.ChangeMaps (setBlock)

def idleN (L : List Pl) : Nat := L.countP Pl.idle
def keyF (L : List Pl) : Lit → Option Value
  | .int .i64 n => (L.find? (fun x => x.num == n)).map (fun x => ptV x.p)
  | _ => none
structure HdAt (W : World) (x : Pl) : Prop where
  blk : W.heap[x.h]? = some (.cells #[.int .i64 x.num, .int .i64 (x.pins : Nat), .bool x.dirty, .slice (some ⟨x.g, 0, none⟩) 1024 x.cap] 69 (0, 0))
  row : W.ownsRow 0 5 1 (.slice (some ⟨x.g, 0, none⟩) 1024 x.cap) 1024 (By x.dat)
structure CaAt (F : Nat → Prop) (W : World) (c m : Nat) (d : Value) (size reads : Int) (L : List Pl) : Prop where
  fc : F c
  fm : F m
  ls : LsAt W c d (.int .i64 size) (.int .i64 reads) (.map (some m)) (.int .i64 (idleN L : Nat)) L
  map : MAt W 3 m L.length (keyF L)
  held : ∀ x ∈ L, HdAt W x
  inF : ∀ x ∈ L, F x.p ∧ F x.h ∧ F x.g
  nh : (L.map (·.h)).Nodup
  nn : (L.map (·.num)).Nodup
  wf : ∀ x ∈ L, (Lit.int .i64 x.num).wf = true
theorem key_int {k : Int} (h : (Lit.int .i64 k).wf = true) : keyOf Try.prog 3 (.int .i64 k) = some (.int .i64 k) := Maps.keyOf_int_mk Try.underlying3 h
theorem zero_pl (w : World) : (zeroValue 57).run Try.prog w = .ok (.pointer none) w := by kernel_rfl
theorem HdAt.g_lt {W : World} {x : Pl} (h : HdAt W x) : x.g < W.heap.size := (h.row.lt x.g rfl).2
theorem HdAt.len {W : World} {x : Pl} (h : HdAt W x) : x.dat.length = 1024 := by have := h.row.1; simpa [By_length] using this
theorem HdAt.gblk {W : World} {x : Pl} (h : HdAt W x) : ∃ cur fr, W.heap[x.g]? = some (.cells cur 5 fr) := by
  rcases h.row.2 with ⟨h1, _⟩ | ⟨g, cap, cur, h1, _, h2, _⟩
  · cases h1
  · cases h1
    exact ⟨_, _, h2⟩
theorem HdAt.keep {W W' : World} {x : Pl} (h : HdAt W x) (h1 : W'.heap[x.h]? = W.heap[x.h]?) (h2 : W'.heap[x.g]? = W.heap[x.g]?) : HdAt W' x :=
  ⟨h1.trans h.blk, owns_at h.row (fun k e => by simp [Value.ownBlock] at e; subst e; exact h2)⟩
section
variable {F : Nat → Prop} {W W' : World} {c m : Nat} {d : Value} {size reads : Int} {L : List Pl}
theorem CaAt.c_lt (h : CaAt F W c m d size reads L) : c < W.heap.size := lt_of_block h.ls.blk
theorem CaAt.p_lt (h : CaAt F W c m d size reads L) {x : Pl} (hx : x ∈ L) : x.p < W.heap.size := by
  obtain ⟨u, v, e⟩ := h.ls.seg.mem hx
  exact lt_of_block e
theorem CaAt.h_lt (h : CaAt F W c m d size reads L) {x : Pl} (hx : x ∈ L) : x.h < W.heap.size := lt_of_block (h.held x hx).blk
theorem CaAt.keep (h : CaAt F W c m d size reads L) (hk : ∀ k, F k → k < W.heap.size → W'.heap[k]? = W.heap[k]?) : CaAt F W' c m d size reads L :=
  ⟨h.fc, h.fm, ⟨(hk c h.fc h.c_lt).trans h.ls.blk, h.ls.seg.keep (fun x hx => hk _ (h.inF x hx).1 (h.p_lt hx)), h.ls.nd⟩, h.map.kept (hk m h.fm h.map.lt),
    fun x hx => (h.held x hx).keep (hk _ (h.inF x hx).2.1 (h.h_lt hx)) (hk _ (h.inF x hx).2.2 (h.held x hx).g_lt), h.inF, h.nh, h.nn, h.wf⟩
theorem CaAt.mono {H : Nat → Prop} (h : CaAt F W c m d size reads L) (hk : ∀ k, F k → k < W.heap.size → H k) : CaAt H W c m d size reads L :=
  ⟨hk c h.fc h.c_lt, hk m h.fm h.map.lt, h.ls, h.map, h.held, fun x hx => ⟨hk _ (h.inF x hx).1 (h.p_lt hx), hk _ (h.inF x hx).2.1 (h.h_lt hx), hk _ (h.inF x hx).2.2 (h.held x hx).g_lt⟩, h.nh, h.nn, h.wf⟩
theorem CaAt.only {S : Nat → Prop} (h : CaAt F W c m d size reads L) (ho : Only S W W') (hS : ∀ k, k < W.heap.size → F k → ¬ S k) : CaAt F W' c m d size reads L :=
  h.keep (fun k hk hl => ho.block k hl (hS k hl hk))
theorem CaAt.below (h : CaAt F W c m d size reads L) (hb : Below W.heap.size W W') : CaAt F W' c m d size reads L := h.keep (fun k _ hl => hb.block k hl)
theorem CaAt.drew (h : CaAt F W c m d size reads L) : CaAt F W.drew c m d size reads L := h.keep (fun _ _ _ => rfl)
theorem CaAt.m_ne (h : CaAt F W c m d size reads L) : m ≠ c ∧ (∀ x ∈ L, m ≠ x.p ∧ m ≠ x.h ∧ m ≠ x.g) := by
  obtain ⟨es, cl, hm⟩ := h.map.isMap
  refine ⟨fun e => ?_, fun x hx => ⟨fun e => ?_, fun e => ?_, fun e => ?_⟩⟩
  · rw [e, h.ls.blk] at hm; cases hm
  · obtain ⟨u, v, hb⟩ := h.ls.seg.mem hx
    rw [e, hb] at hm; cases hm
  · rw [e, (h.held x hx).blk] at hm; cases hm
  · obtain ⟨cur, fr, hb⟩ := (h.held x hx).gblk
    rw [e, hb] at hm; cases hm
theorem CaAt.kind (h : CaAt F W c m d size reads L) {x y : Pl} (hx : x ∈ L) (hy : y ∈ L) : x.h ≠ c ∧ x.g ≠ c ∧ x.h ≠ y.p ∧ x.g ≠ y.p ∧ x.g ≠ y.h := by
  obtain ⟨u, v, hp⟩ := h.ls.seg.mem hy
  obtain ⟨cur, fr, hg⟩ := (h.held x hx).gblk
  have hh := (h.held x hx).blk
  have hh2 := (h.held y hy).blk
  have hc := h.ls.blk
  refine ⟨fun e => ?_, fun e => ?_, fun e => ?_, fun e => ?_, fun e => ?_⟩
  · rw [e, hc] at hh; simp at hh
  · rw [e, hc] at hg; simp at hg
  · rw [e, hp] at hh; simp at hh
  · rw [e, hp] at hg; simp at hg
  · rw [e, hh2] at hg; simp at hg
end
/-! what hangs on some parts alone -/
theorem nxtV_same {L L' : List Pl} (h : L.map (fun x => (x.p, x.h)) = L'.map (fun x => (x.p, x.h))) (e : Value) : nxtV L e = nxtV L' e := by
  cases L <;> cases L' <;> simp at h
  · rfl
  · rw [nxtV_cons, nxtV_cons, h.1.1]
theorem lstV_same {L L' : List Pl} (h : L.map (fun x => (x.p, x.h)) = L'.map (fun x => (x.p, x.h))) (a : Value) : lstV a L = lstV a L' := by
  induction L generalizing L' a with
  | nil => cases L' <;> simp at h; rfl
  | cons x L ih =>
    cases L' with
    | nil => simp at h
    | cons y L' =>
      simp only [List.map_cons, List.cons.injEq, Prod.mk.injEq] at h
      rw [lstV_cons, lstV_cons, h.1.1]
      exact ih h.2 _
theorem Seg.same {W : World} {L L' : List Pl} (h : L.map (fun x => (x.p, x.h)) = L'.map (fun x => (x.p, x.h))) {a e : Value} (hs : Seg W a L e) : Seg W a L' e := by
  induction L generalizing L' a with
  | nil => cases L' <;> simp at h; trivial
  | cons x L ih =>
    cases L' with
    | nil => simp at h
    | cons y L' =>
      simp only [List.map_cons, List.cons.injEq, Prod.mk.injEq] at h
      refine ⟨?_, ?_⟩
      · rw [← h.1.1, ← h.1.2, ← nxtV_same h.2]; exact hs.1
      · rw [← h.1.1]; exact ih h.2 hs.2
theorem keyF_int (L : List Pl) (n : Int) : keyF L (.int .i64 n) = (L.find? (fun x => x.num == n)).map (fun x => ptV x.p) := rfl
theorem keyF_ext {L L' : List Pl} (h : ∀ n, (L.find? (fun x => x.num == n)).map (fun x => ptV x.p) = (L'.find? (fun x => x.num == n)).map (fun x => ptV x.p)) (l : Lit) : keyF L l = keyF L' l := by
  unfold keyF
  split
  · exact h _
  · rfl
theorem find_at {A B : List Pl} {x : Pl} (hn : ((A ++ x :: B).map (·.num)).Nodup) : (A ++ x :: B).find? (fun y => y.num == x.num) = some x := by
  have : A.find? (fun y => y.num == x.num) = none := by
    rw [List.find?_eq_none]
    intro y hy e
    simp only [List.map_append, List.map_cons, List.nodup_append] at hn
    exact hn.2.2 y.num (List.mem_map.2 ⟨y, hy, rfl⟩) x.num (by simp) (by simpa using e)
  rw [List.find?_append, this]
  simp
theorem find_split {L : List Pl} {n : Int} : (L.find? (fun y => y.num == n) = none ∧ ∀ y ∈ L, y.num ≠ n) ∨ ∃ A x B, L = A ++ x :: B ∧ x.num = n := by
  cases h : L.find? (fun y => y.num == n) with
  | none =>
    left
    refine ⟨rfl, fun y hy e => ?_⟩
    have := List.find?_eq_none.1 h y hy
    simp [e] at this
  | some x =>
    right
    obtain ⟨A, B, e⟩ := List.append_of_mem (List.mem_of_find?_eq_some h)
    exact ⟨A, x, B, e, by simpa using List.find?_some h⟩
/-- One of the kept blocks is another one at the same places. -/
theorem CaAt.turn {F : Nat → Prop} {W W' : World} {c m : Nat} {d : Value} {size reads reads' : Int} {A B : List Pl} {x x' : Pl} (h : CaAt F W c m d size reads (A ++ x :: B))
    (hp : x'.p = x.p) (hh : x'.h = x.h) (hn : x'.num = x.num) (hF : F x'.g) (hx : HdAt W' x')
    (hc : W'.heap[c]? = some (.cells #[d, .int .i64 size, .int .i64 reads', nxtV (A ++ x :: B) niV, lstV niV (A ++ x :: B), .map (some m), .int .i64 (idleN (A ++ x' :: B) : Nat)] 61 (0, 0)))
    (hk : ∀ k, F k → k < W.heap.size → k ≠ c → k ≠ x.h → W'.heap[k]? = W.heap[k]?) : CaAt F W' c m d size reads' (A ++ x' :: B) := by
  have e2 : (A ++ x :: B).map (fun y => (y.p, y.h)) = (A ++ x' :: B).map (fun y => (y.p, y.h)) := by simp [hp, hh]
  have hxm : x ∈ A ++ x :: B := by simp
  have sub : ∀ y ∈ A ++ x' :: B, y = x' ∨ (y ∈ A ++ x :: B ∧ y.h ≠ x.h) := by
    intro y hy
    have nh := h.nh
    simp only [List.map_append, List.map_cons, List.nodup_append, List.nodup_cons] at nh
    simp at hy
    rcases hy with hy | rfl | hy
    · exact .inr ⟨by simp [hy], nh.2.2 y.h (List.mem_map.2 ⟨y, hy, rfl⟩) x.h (by simp)⟩
    · exact .inl rfl
    · exact .inr ⟨by simp [hy], fun e => nh.2.1.1 (e ▸ List.mem_map.2 ⟨y, hy, rfl⟩)⟩
  refine ⟨h.fc, h.fm, ⟨by rw [← nxtV_same e2, ← lstV_same e2]; exact hc, Seg.same e2 (h.ls.seg.keep (fun y hy => hk _ (h.inF y hy).1 (h.p_lt hy) (h.ls.ne hy) (fun e => (h.kind hxm hy).2.2.1 e.symm))), ?_⟩, ?_, ?_, ?_, ?_, ?_, ?_⟩
  · have := h.ls.nd
    simp only [List.map_append, List.map_cons, hp] at this ⊢
    exact this
  · have := h.map.kept (hk m h.fm h.map.lt h.m_ne.1 ((h.m_ne.2 x hxm).2.1))
    have e3 : (A ++ x' :: B).length = (A ++ x :: B).length := by simp
    rw [e3]
    refine this.say (fun _ kl _ => keyF_ext (fun n => ?_) kl)
    simp only [List.find?_append, List.find?_cons, hn]
    cases A.find? (fun y => y.num == n) <;> simp
    cases (x.num == n) <;> simp [hp]
  · intro y hy
    rcases sub y hy with rfl | ⟨hy, hne⟩
    · exact hx
    · exact (h.held y hy).keep (hk _ (h.inF y hy).2.1 (h.h_lt hy) (h.kind hy hy).1 hne) (hk _ (h.inF y hy).2.2 (h.held y hy).g_lt (h.kind hy hy).2.1 (h.kind hy hxm).2.2.2.2)
  · intro y hy
    rcases sub y hy with rfl | ⟨hy, _⟩
    · rw [hp, hh]; exact ⟨(h.inF x hxm).1, (h.inF x hxm).2.1, hF⟩
    · exact h.inF y hy
  · have := h.nh
    simp only [List.map_append, List.map_cons, hh] at this ⊢
    exact this
  · have := h.nn
    simp only [List.map_append, List.map_cons, hn] at this ⊢
    exact this
  · intro y hy
    rcases sub y hy with rfl | ⟨hy, _⟩
    · rw [hn]; exact h.wf x hxm
    · exact h.wf y hy
end Go.Proofs.Ytmbhjheoomlggaa
