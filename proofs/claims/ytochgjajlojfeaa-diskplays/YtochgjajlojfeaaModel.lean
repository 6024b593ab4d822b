/-
  The model of the statement DiskPlays in memory, and what one sector put into it makes of it.
-/
import Derived.Test.YtochgjajlojfeaaWriteAny
namespace Go.Proofs.Ytochgjajlojfeaa
open Go Go.Proofs Go.RowKit Go.Shelf

/-- The number in which the model keeps its cut. -/
def mcut (s : DS) : Int := if s.cut = true then s.left else -1

/-- The model in memory, of a state. -/
def ModelAt (F : Nat → Prop) (W : World) (m : Nat) (s : DS) : Prop :=
  F m ∧ ∃ bi lv, W.heap[m]? = some (.cells #[.slice (some ⟨bi, 0, none⟩) s.img.length s.img.length, lv, .int .i64 (mcut s), .bool s.dead] 30 (0, 0)) ∧
    DiskRest (fun k => F k ∧ k ≠ m) W bi lv s

theorem ModelAt.at {F : Nat → Prop} {W W' : World} {m : Nat} {s : DS} (h : ModelAt F W m s) (hk : ∀ k, F k → W'.heap[k]? = W.heap[k]?) : ModelAt F W' m s := by
  obtain ⟨h0, bi, lv, h1, h2⟩ := h
  exact ⟨h0, bi, lv, (hk m h0).trans h1, h2.at (fun k e => hk k e.1)⟩

theorem ModelAt.mono {F H : Nat → Prop} {W : World} {m : Nat} {s : DS} (h : ModelAt F W m s) (hk : ∀ k, IsC W k → F k → H k) : ModelAt H W m s := by
  obtain ⟨h0, bi, lv, h1, h2⟩ := h
  exact ⟨hk m ⟨_, _, _, h1⟩ h0, bi, lv, h1, h2.mono (fun k hs e => ⟨hk k hs e.1, e.2⟩)⟩

theorem ModelAt.only {F S : Nat → Prop} {W W' : World} {m : Nat} {s : DS} (h : ModelAt F W m s) (ho : Only S W W') (hd : ∀ k, k < W.heap.size → F k → ¬ S k) : ModelAt F W' m s := by
  have h' : ModelAt (fun k => F k ∧ k < W.heap.size) W m s := h.mono (fun k hs e => ⟨e, hs.lt⟩)
  exact (h'.at (fun k e => ho.block k e.2 (hd k e.2 e.1))).mono (fun k _ e => e.1)

theorem ModelAt.lt {F : Nat → Prop} {W : World} {m : Nat} {s : DS} (h : ModelAt F W m s) : m < W.heap.size := by
  obtain ⟨h0, bi, lv, h1, h2⟩ := h
  exact lt_of_block h1

/-- Turning the model's flags. -/
theorem ModelAt.flags {F : Nat → Prop} {w w' : World} {m : Nat} {s s' : DS} (h : ModelAt F w m s) (hi : s'.img = s.img) (hl : s'.log = s.log)
    (hs : ∀ bi lv, w.heap[m]? = some (.cells #[.slice (some ⟨bi, 0, none⟩) s.img.length s.img.length, lv, .int .i64 (mcut s), .bool s.dead] 30 (0, 0)) →
      w'.heap[m]? = some (.cells #[.slice (some ⟨bi, 0, none⟩) s.img.length s.img.length, lv, .int .i64 (mcut s'), .bool s'.dead] 30 (0, 0)))
    (ho : Only (fun k => k = m) w w') : ModelAt F w' m s' := by
  obtain ⟨h0, bi, lv, h1, h2⟩ := h
  refine ⟨h0, bi, lv, by rw [hi]; exact hs bi lv h1, ?_⟩
  have h2' : DiskRest (fun k => (F k ∧ k ≠ m) ∧ k < w.heap.size) w bi lv s := h2.mono (fun k hs e => ⟨e, hs.lt⟩)
  have h3 := (h2'.at (W' := w') (fun k e => ho.block k e.2 e.1.2)).mono (H := fun k => F k ∧ k ≠ m) (fun k _ e => e.1)
  exact ⟨h3.1, by rw [hi]; exact h3.2.1, by rw [hl]; exact h3.2.2⟩

theorem wpList_append_sep {P : Program} {w : World} {ops : Array Oper} {rest : List Oper} {o : Oper} {a : Act} {Q : Exit → Act → World → Prop} (hgd : o.guard = none) (s x : Operand) (t : TypeId)
    (ho : o.op = .call { callee := .builtin .append, args := #[s, x], argTypes := #[t, t] })
    (e : TypeId) (i : TypeInfo) (z : Value) (size bytes : Nat) (ht : P.underlying t = some (.slice e)) (hi : P.info? e = some i) (hz : i.zero = some z)
    (hsize : i.size = size) (hby : i.bytes = bytes) (hzs : z.cells.size = size) (hsz : 0 < size)
    (v : Value) (n : Nat) (xs : List Value) (hs : a.eval s = v) (hown : w.ownsRow 0 e size v n xs)
    (ad : Addr) (m c : Nat) (news : List Value) (hx : a.eval x = .slice (some ad) m c) (hl : news.length = m * size) (hnews : ∀ j u, news[j]? = some u → w.cell? (ad.add j) = some u) (h1 : ∀ u ∈ news, u.oneCell' = true)
    (h63 : n + m ≤ maxLen) (hbytes : (n + m) * bytes ≤ 140737488355328) (hm : 0 < m)
    (h : ∀ g' cap' w', w'.ownsRow 0 e size (.slice (some ⟨g', 0, none⟩) (n + m) cap') (n + m) (xs ++ news) → w.grownBy w' v.ownBlock → (v.ownBlock = some g' ∨ w.heap.size ≤ g') →
      wpList P ops Q rest (a.put o.dst (.slice (some ⟨g', 0, none⟩) (n + m) cap')) w') : wpList P ops Q (o :: rest) a w :=
  wpList_plain hgd fun _ hK => wp_append_sep s x t ho e i z size bytes ht hi hz hsize hby hzs hsz v n xs hs hown ad m c news hx hl hnews h1 h63 hbytes hm fun g' cap' w' h2 h3 h4 => hK _ _ (h g' cap' w' h2 h3 h4)

/-- One sector put into the model: x (a new row), the copy, the log. -/
theorem mput_fin {F : Nat → Prop} {w w3 w4 w6 : World} {m bi q g cap gl capl L : Nat} {lv : Value} {s : DS} {xs : List Int} {cells : List Value} {o : Obj}
    (h0 : F m) (H2 : DiskRest (fun k => F k ∧ k ≠ m) w bi lv s) (hL : s.img.length = L) (hx : xs.length = 512) (hq : 512 * q + 512 ≤ L) (hm : m < w.heap.size)
    (HB3 : w.grownBy w3 none) (HG3 : w.heap.size ≤ g) (HW3 : w3.ownsRow w.heap.size 5 1 (.slice (some ⟨g, 0, none⟩) 512 cap) 512 (By xs))
    (hblk : w4.heap[bi]? = some (.cells (splice (By s.img) (512 * q) (By xs)).toArray 5 (0, 0))) (hg : w3.grownBy w4 (some bi))
    (HW6 : w6.ownsRow 0 41 2 (.slice (some ⟨gl, 0, none⟩) (s.log.length + 1) capl) (s.log.length + 1) (cells ++ [.int .i64 q, .slice (some ⟨g, 0, none⟩) 512 cap]))
    (HG6 : (w4.alloc o).grownBy w6 lv.ownBlock) (HL6 : lv.ownBlock = some gl ∨ (w4.alloc o).heap.size ≤ gl)
    (H16 : w6.heap[m]? = some (.cells #[.slice (some ⟨bi, 0, none⟩) L L, lv, .int .i64 (mcut s), .bool s.dead] 30 (0, 0)))
    (hcw : w.ownsRow 0 41 2 lv s.log.length cells)
    (HK : ∀ k, lv.ownBlock = some k → (F k ∧ k ≠ m) ∧ k ≠ bi) (HC : LogCells (fun k => ((F k ∧ k ≠ m) ∧ k ≠ bi) ∧ lv.ownBlock ≠ some k) w cells s.log) :
    ModelAt (fun k => F k ∨ w.heap.size ≤ k) (w6.setCell ⟨m, 1, none⟩ (.slice (some ⟨gl, 0, none⟩) (s.log.length + 1) capl)) m (putS s q xs) ∧
      Only F w (w6.setCell ⟨m, 1, none⟩ (.slice (some ⟨gl, 0, none⟩) (s.log.length + 1) capl)) := by
  have hbi : bi < w.heap.size := lt_of_block H2.2.1
  have s1 : w.heap.size ≤ w3.heap.size := HB3.size
  have s2 : w3.heap.size ≤ w4.heap.size := hg.size
  have hg3 : g < w3.heap.size := (HW3.lt g rfl).2
  have hsz : (w4.alloc o).heap.size = w4.heap.size + 1 := by simp
  have hown : ∀ k, lv.ownBlock = some k → k < w.heap.size := fun k e => (hcw.lt k e).2
  have hgl : gl ≠ m := by
    intro e
    rcases HL6 with h | h
    · exact (HK gl h).1.2 e
    · omega
  have step : ∀ k, k < w4.heap.size → lv.ownBlock ≠ some k → w6.heap[k]? = w4.heap[k]? := fun k hk hne =>
    (HG6.block k (by omega) (fun e => hne e.symm)).trans (Below.heap_alloc _ _ _ hk)
  have step2 : ∀ k, k < w3.heap.size → k ≠ bi → lv.ownBlock ≠ some k → w6.heap[k]? = w3.heap[k]? := fun k hk hb hne =>
    (step k (by omega) hne).trans (hg.block k hk (fun e => hb (by simpa using e)))
  have step3 : ∀ k, k < w.heap.size → k ≠ bi → lv.ownBlock ≠ some k → w6.heap[k]? = w.heap[k]? := fun k hk hb hne =>
    (step2 k (by omega) hb hne).trans (HB3.block k hk (by simp))
  have set : ∀ k, k ≠ m → (w6.setCell ⟨m, 1, none⟩ (.slice (some ⟨gl, 0, none⟩) (s.log.length + 1) capl)).heap[k]? = w6.heap[k]? := fun k hk => Below.heap_setCell _ _ _ _ hk
  have hlen : (putS s q xs).img.length = L := by
    rw [← hL]
    exact length_splice _ _ _ (by rw [hx, hL]; omega)
  refine ⟨⟨.inl h0, bi, .slice (some ⟨gl, 0, none⟩) (s.log.length + 1) capl, ?_, ⟨.inl H2.1.1, H2.1.2⟩, ?_, cells ++ [.int .i64 q, .slice (some ⟨g, 0, none⟩) 512 cap], ?_, ?_, ?_⟩, ?_⟩
  · rw [hlen]
    exact blk_set H16
  · rw [set bi H2.1.2, step bi (by omega) (fun e => (HK bi e).2 rfl), hblk, splice_By]
    rfl
  · have hlen2 : (putS s q xs).log.length = s.log.length + 1 := by simp [putS]
    rw [hlen2]
    exact owns_at HW6 (fun k e => by
      simp [Value.ownBlock] at e
      subst e
      exact set _ hgl)
  · intro k e
    simp [Value.ownBlock] at e
    subst e
    rcases HL6 with h | h
    · exact ⟨⟨.inl (HK _ h).1.1, hgl⟩, (HK _ h).2⟩
    · exact ⟨⟨.inr (by omega), hgl⟩, by omega⟩
  · refine LogCells.snoc (x := ((q : Int), xs)) (b := .slice (some ⟨g, 0, none⟩) 512 cap) (log := s.log) rfl ?_ ?_ ?_ ?_
    · simp
    · have h3 : w3.ownsRow 0 5 1 (.slice (some ⟨g, 0, none⟩) 512 cap) 512 (By xs) := owns_base HW3 (Nat.zero_le _)
      show World.ownsRow _ 0 5 1 _ xs.length (By xs)
      rw [hx]
      refine owns_at h3 (fun k e => ?_)
      simp [Value.ownBlock] at e
      subst e
      rw [set _ (by omega), step2 _ hg3 (by omega) (fun e => by have := hown _ e; omega)]
    · intro k e
      simp [Value.ownBlock] at e
      subst e
      refine ⟨⟨⟨.inr (by omega), by omega⟩, by omega⟩, ?_⟩
      simp [Value.ownBlock]
      rcases HL6 with h | h
      · have := hown _ h; omega
      · omega
    · have hc' := HC.mono (H := fun k => (((F k ∧ k ≠ m) ∧ k ≠ bi) ∧ lv.ownBlock ≠ some k) ∧ k < w.heap.size) (fun k hk e => ⟨e, hk.lt⟩)
      refine (hc'.at (fun k e => ?_)).mono (fun k _ e => ?_)
      · rw [set k e.1.1.1.2, step3 k e.2 e.1.1.2 e.1.2]
      · refine ⟨⟨⟨.inl e.1.1.1.1, e.1.1.1.2⟩, e.1.1.2⟩, ?_⟩
        simp [Value.ownBlock]
        rcases HL6 with h | h
        · intro e2; subst e2; exact e.1.2 h
        · have := e.2; omega
  · refine Only.setCell ⟨HG6.os.trans (hg.os.trans HB3.os), HG6.tape.trans (hg.tape.trans HB3.tape), HG6.output.trans (hg.output.trans HB3.output), Nat.le_trans (Nat.le_trans s1 s2) (Nat.le_trans (by omega) HG6.size), fun k hk hs => ?_⟩ (.inl h0) _
    exact step3 k hk (fun e => hs (by rw [e]; exact H2.1.1)) (fun e => hs (HK k e).1.1)

end Go.Proofs.Ytochgjajlojfeaa
