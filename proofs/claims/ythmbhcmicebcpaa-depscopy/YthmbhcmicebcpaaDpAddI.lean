/-
  What Add leans on.
-/
import Derived.Test.YthmbhcmicebcpaaDpSmall
import Derived.Test.YthmbhcmicebcpaaDpFinish
namespace Go.Proofs.Ythmbhcmicebcpaa
open Go Go.Proofs Go.RowKit Go.Shelf
noncomputable def Ga.hang (i : Int) (A : Ga) (y : Int) : Ga := match A.ch y with
  | none => A
  | some c => { A with ch := updC A.ch y (some ⟨c.buf, c.on, c.ab ++ [i]⟩) }
open Classical in
noncomputable def addStep (i : Int) (p : List Int × Ga) (y : Int) : List Int × Ga := if y ∈ p.1 then p else (insS y p.1, p.2.hang i y)
theorem Ga.Ok.hang {A : Ga} (h : A.Ok) (i y : Int) : (A.hang i y).Ok := by
  unfold Ga.hang
  cases hc : A.ch y with
  | none => exact h
  | some c => exact h.turn hc _ _
/-- Between two rounds of Add. -/
structure AdI (F : Nat → Prop) (w w5 : World) (q g : Nat) (D : Gd) (i buf : Int) (ao : Option Addr) (m cc : Nat) (xs : List Int) (p : List Int × Ga) (A : World) : Prop where
  b0 : A.heap[w.heap.size + 1]? = some (.cells #[ptV w.heap.size] 56 (0, 0))
  o0 : A.heap[q]? = some (.cells #[ptV g] 26 (0, 0))
  o1 : A.heap[q + 1]? = some (.cells #[.slice ao m cc] 23 (0, 0))
  row : LAt A ao m xs
  sz : w5.heap.size ≤ A.heap.size
  on : Only F w A
  un : ∀ y, y ∉ p.1 → p.2.ch y = D.abs.ch y
  st : ∃ Dk om, GrAt (fun k => (F k ∧ k < w.heap.size) ∨ w5.heap.size + 2 ≤ k) A g Dk ∧ Dk.abs = p.2 ∧ Dk.abs.Ok ∧ (∀ y, (Dk.ch y).map (·.cb) = (D.ch y).map (·.cb)) ∧ A.heap[w.heap.size]? = some (.cells #[.int .i64 i, .int .i64 buf, .map om, .slice none 0 0] 77 (0, 0)) ∧ StAt A om p.1 ∧ ∀ k, om = some k → w5.heap.size + 2 ≤ k ∧ k < A.heap.size ∧ ∀ n, ¬ Own g Dk n k
structure AdC (F : Nat → Prop) (w w5 : World) (q : Nat) (ao : Option Addr) (m : Nat) : Prop where
  q0 : w.heap.size + 2 ≤ q
  q1 : q + 1 < w5.heap.size
  ro : ∀ a, ao = some a → 0 < m → a.block < w.heap.size ∧ ¬ F a.block
section
variable {F : Nat → Prop} {w w5 A B : World} {q g : Nat} {D : Gd} {i buf : Int} {ao : Option Addr} {m cc : Nat} {xs : List Int} {p : List Int × Ga}
theorem lat_keep {W W' : World} {ao : Option Addr} {m : Nat} {xs : List Int} (h : LAt W ao m xs) (hk : ∀ a, ao = some a → 0 < m → W'.heap[a.block]? = W.heap[a.block]?) (hs : W.heap.size ≤ W'.heap.size) : LAt W' ao m xs := by
  refine ⟨h.1, fun hm => ?_⟩
  obtain ⟨a, e, hl, hc⟩ := h.2 hm
  refine ⟨a, e, Nat.lt_of_lt_of_le hl hs, fun j hj => ?_⟩
  rw [World.cell?_of_block (w := W) (by rw [add_block]; exact hk a e hm)]
  exact hc j hj
theorem AdI.others {S : Nat → Prop} (h : AdI F w w5 q g D i buf ao m cc xs p A) (hO : Only S A B) (hS : ∀ k, k < A.heap.size → S k → w5.heap.size ≤ k ∧ k < w5.heap.size + 2) (hc : AdC F w w5 q ao m) : AdI F w w5 q g D i buf ao m cc xs p B := by
  have keep : ∀ k, k < w5.heap.size → B.heap[k]? = A.heap[k]? := fun k hk => hO.block k (by have := h.sz; omega) (fun hs => by have := hS k (by have := h.sz; omega) hs; omega)
  have := hc.q0
  have := hc.q1
  refine ⟨(keep _ (by omega)).trans h.b0, (keep _ (by omega)).trans h.o0, (keep _ (by omega)).trans h.o1, lat_keep h.row (fun a e hm => keep _ (by have := (hc.ro a e hm).1; omega)) hO.size, Nat.le_trans h.sz hO.size, ?_, h.un, ?_⟩
  · exact h.on.trans (T := fun k => S k ∧ k < A.heap.size) (hO.mono (fun k hk hs => ⟨hs, hk⟩)) (fun k hs => .inr (by have := hS k hs.2 hs.1; omega))
  · obtain ⟨Dk, om, h1, h2, h3, h4, h5, h6, h7⟩ := h.st
    refine ⟨Dk, om, h1.only hO (fun k hk hlt hs => ?_), h2, h3, h4, (keep _ (by omega)).trans h5, h6.kept (fun b hb => hO.block b (h7 b hb).2.1 (fun hs => by have := hS b (h7 b hb).2.1 hs; have := (h7 b hb).1; omega)), fun k hk => ⟨(h7 k hk).1, Nat.lt_of_lt_of_le (h7 k hk).2.1 hO.size, (h7 k hk).2.2⟩⟩
    have := hS k hlt hs
    rcases hk with hk | hk
    · have := hk.2; omega
    · omega
/-- One more that the new change hangs on: what 'add' makes. -/
theorem AdI.ins (h : AdI F w w5 q g D i buf ao m cc xs p A) (hs : w5.heap.size + 2 ≤ A.heap.size) (hc : AdC F w w5 q ao m) (hn : p.1.length < 1000000) (y : Int) (hw : (Lit.int .i64 y).wf = true) :
    Calls Try.prog 47 #[.pointer (some ⟨w.heap.size, 2, none⟩), .int .i64 y] A fun e B => e = .returned (.bool (!decide (y ∈ p.1))) ∧ AdI F w w5 q g D i buf ao m cc xs (insS y p.1, p.2) B ∧ (B.heap[w5.heap.size]? = A.heap[w5.heap.size]? ∧ B.heap[w5.heap.size + 1]? = A.heap[w5.heap.size + 1]?) ∧ A.heap.size ≤ B.heap.size := by
  obtain ⟨Dk, om, h1, h2, h3, h4, h5, h6, h7⟩ := h.st
  have q0 := hc.q0
  have q1 := hc.q1
  refine (add_any A w.heap.size 2 _ _ om p.1 h5 rfl h6 hn (fun e => by have := (h7 _ e).1; omega) y hw).mono ?_
  rintro e B ⟨rfl, m', hm', hb', hst', hO⟩
  have keep : ∀ k, k < w5.heap.size + 2 → k ≠ w.heap.size → B.heap[k]? = A.heap[k]? := fun k hk hn => hO.block k (by omega) (by
    rintro (e | e)
    · exact hn e
    · have := (h7 k e).1; omega)
  have hm2 : ∀ k, m' = some k → (om = some k ∨ A.heap.size ≤ k) ∧ k < B.heap.size := fun k hk => by
    have hl : k < B.heap.size := by subst hk; exact StAt.lt hst'
    rcases hm' with rfl | ⟨_, r, rfl, hr⟩
    · exact ⟨.inl hk, hl⟩
    · cases hk
      exact ⟨.inr hr, hl⟩
  have hgr : GrAt (fun k => (F k ∧ k < w.heap.size) ∨ w5.heap.size + 2 ≤ k) B g Dk := by
    have ht := h1.tight.only hO (fun k hk hlt hs => by
      obtain ⟨n, hn⟩ := hk
      rcases hs with rfl | hs
      · rcases (h1.own n _ hn).1 with h' | h'
        · have := h'.2; omega
        · omega
      · exact (h7 k hs).2.2 n hn)
    exact ht.mono (fun k _ hk => by obtain ⟨n, hn⟩ := hk; exact (h1.own n k hn).1)
  refine ⟨rfl, ⟨(keep _ (by omega) (by omega)).trans h.b0, (keep _ (by omega) (by omega)).trans h.o0, (keep _ (by omega) (by omega)).trans h.o1, lat_keep h.row (fun a e hm => keep _ (by have := (hc.ro a e hm).1; omega) (by have := (hc.ro a e hm).1; omega)) hO.size, Nat.le_trans h.sz hO.size, ?_, fun z hz => h.un z (fun hz' => hz (mem_ins.2 (.inr hz'))), Dk, m', hgr, h2, h3, h4, ?_, hst', fun k hk => ?_⟩, ⟨keep _ (by omega) (by omega), keep _ (by omega) (by omega)⟩, hO.size⟩
  · exact h.on.trans hO (fun k hk => .inr (by
      rcases hk with rfl | hk
      · exact Nat.le_refl _
      · have := (h7 k hk).1; omega))
  · rw [hb']; rfl
  · obtain ⟨a1, a2⟩ := hm2 k hk
    rcases a1 with a1 | a1
    · exact ⟨(h7 k a1).1, a2, (h7 k a1).2.2⟩
    · exact ⟨by omega, a2, h1.new a1⟩
/-- The new change is one more that hangs on an open one. -/
theorem AdI.hung (h : AdI F w w5 q g D i buf ao m cc xs p A) (hs : w5.heap.size + 2 ≤ A.heap.size) (hc : AdC F w w5 q ao m) {y : Int} {cb : Nat} (hcb : (D.ch y).map (·.cb) = some cb) (hyp : y ∈ p.1) (hun : p.2.ch y = D.abs.ch y) (hlen : ∀ c, D.abs.ch y = some c → c.ab.length ≤ 900000) :
    ∃ av v' W7, A.cell? ⟨cb, 3, none⟩ = some av ∧ (∃ ao n c, av = .slice ao n c) ∧ (Builtin.append_ #[23, 23] 23 #[av, .slice (some ⟨A.heap.size, 0, none⟩) 1 1]).run Try.prog (A.alloc (.cells #[.int .i64 i] 3)) = .ok v' W7 ∧ (∃ ao n c, v' = .slice ao n c) ∧ W7.frozen? ⟨cb, 3, none⟩ = false ∧ (W7.cell? ⟨cb, 3, none⟩ = some av) ∧
      (W7.heap[w.heap.size + 1]? = A.heap[w.heap.size + 1]? ∧ W7.heap[w.heap.size]? = A.heap[w.heap.size]?) ∧ cb ≠ w.heap.size ∧ cb ≠ w.heap.size + 1 ∧
      AdI F w w5 q g D i buf ao m cc xs (p.1, p.2.hang i y) (W7.setCell ⟨cb, 3, none⟩ v') ∧ ((W7.setCell ⟨cb, 3, none⟩ v').heap[w5.heap.size]? = A.heap[w5.heap.size]? ∧ (W7.setCell ⟨cb, 3, none⟩ v').heap[w5.heap.size + 1]? = A.heap[w5.heap.size + 1]?) := by
  obtain ⟨Dk, om, h1, h2, h3, h4, h5, h6, h7⟩ := h.st
  have q0 := hc.q0
  have q1 := hc.q1
  obtain ⟨c, hcy, hce⟩ : ∃ c, Dk.ch y = some c ∧ c.cb = cb := by
    have e := (h4 y).trans hcb
    cases hh : Dk.ch y with
    | none => rw [hh] at e; cases e
    | some z => rw [hh] at e; exact ⟨z, rfl, Option.some.inj e⟩
  subst hce
  have hdat : Dk.abs.ch y = some c.dat := by show (Dk.ch y).map _ = _; rw [hcy]; rfl
  have hl2 : c.ab.length ≤ 900000 := hlen c.dat (by rw [← hun, ← h2]; exact hdat)
  have hrow : A.ownsRow 0 3 1 c.av c.ab.length (Iy c.ab) := h1.cont (.ab y) c hcy
  obtain ⟨v', W7, hr, ho7, hO7, hv7⟩ := appendi_own A 0 c.av c.ab.length c.ab hrow (Nat.zero_le _) i (by omega)
  have hblk : A.heap[c.cb]? = some (chO y c) := h1.cont (.ch y) c hcy
  have hFc := h1.own (.ch y) c.cb ⟨c, hcy, rfl⟩
  have hcbne : c.cb ≠ w.heap.size ∧ c.cb ≠ w.heap.size + 1 := by
    rcases hFc.1 with h' | h'
    · have := h'.2; omega
    · omega
  have hav : ∀ k, c.av.ownBlock = some k → k ≠ c.cb ∧ ((F k ∧ k < w.heap.size) ∨ w5.heap.size + 2 ≤ k) := fun k hk => ⟨fun e => (by have := h1.sep (.ab y) (.ch y) k ⟨c, hcy, hk⟩ ⟨c, hcy, e.symm⟩; cases this), (h1.own (.ab y) k ⟨c, hcy, hk⟩).1⟩
  have hblk7 : W7.heap[c.cb]? = some (chO y c) := (hO7.block c.cb hFc.2 (fun e => (hav _ e).1 rfl)).trans hblk
  obtain ⟨W8, hW8⟩ : ∃ W8, W8 = W7.setCell ⟨c.cb, 3, none⟩ v' := ⟨_, rfl⟩
  have hO8 : Only (fun k => k = c.cb ∨ c.om = some k ∨ c.av.ownBlock = some k) A W8 := by
    rw [hW8]
    exact (hO7.mono (fun k _ hk => .inr (.inr hk))).setCell (p := ⟨c.cb, 3, none⟩) (.inl (.inl rfl)) _
  have hs8 : A.heap.size ≤ W8.heap.size := hO8.size
  have hsz7 : W8.heap.size = W7.heap.size := by rw [hW8]; simp [World.setCell]
  have hsm : ∀ k, w.heap.size ≤ k → k < w5.heap.size + 2 → W8.heap[k]? = A.heap[k]? := fun k hk1 hk2 => hO8.block k (by omega) (by
    rintro (e | e | e)
    · rcases hFc.1 with h' | h'
      · have := h'.2; omega
      · omega
    · rcases (h1.own (.on y) k ⟨c, hcy, e⟩).1 with h' | h'
      · have := h'.2; omega
      · omega
    · rcases (hav k e).2 with h' | h'
      · have := h'.2; omega
      · omega)
  have hsm7 : ∀ k, w.heap.size ≤ k → k < w5.heap.size + 2 → W7.heap[k]? = A.heap[k]? := fun k hk1 hk2 => hO7.block k (by omega) (fun e => by
    rcases (hav k e).2 with h' | h'
    · have := h'.2; omega
    · omega)
  have hvcb : ∀ k, v'.ownBlock = some k → k ≠ c.cb := fun k hk => by
    rcases hv7 with hv | hv
    · rw [hv] at hk; exact (hav k hk).1
    · have := hv k hk
      have := hFc.2
      omega
  have hg8 := h1.chTurn (c' := ⟨c.buf, c.on, c.ab ++ [i], c.cb, c.om, v'⟩) hcy hO8 rfl rfl (by
      rcases hv7 with hv | hv
      · exact .inl hv
      · refine .inr (fun k hk => ⟨hv k hk, ?_⟩)
        rw [hsz7]
        exact (ho7.lt k hk).2) (by rw [hW8, blk_set hblk7]; rfl) ((h1.cont (.on y) c hcy).kept (fun b hb => by
      have hbc : b ≠ c.cb := fun e => by have := h1.sep (.on y) (.ch y) b ⟨c, hcy, hb⟩ ⟨c, hcy, e.symm⟩; cases this
      rw [hW8, set_other _ _ _ _ hbc]
      exact hO7.block b (h1.lt (n := .on y) ⟨c, hcy, hb⟩) (fun e => by have := h1.sep (.on y) (.ab y) b ⟨c, hcy, hb⟩ ⟨c, hcy, e⟩; cases this))) (by
      show W8.ownsRow 0 3 1 v' (c.ab ++ [i]).length (Iy (c.ab ++ [i]))
      rw [List.length_append]
      refine row_same ho7 (fun k hk => ?_)
      rw [hW8, set_other _ _ _ _ (hvcb k hk)])
  have hslice : ∀ (v : Value) n xs, (∃ W : World, W.ownsRow 0 3 1 v n xs) → ∃ ao n c, v = .slice ao n c := by
    rintro v n xs ⟨W, hw⟩
    rcases hw.2 with ⟨e, _⟩ | ⟨g', cap', cur, e, _⟩
    · exact ⟨_, _, _, e⟩
    · exact ⟨_, _, _, e⟩
  have hun2 : Dk.abs.hang i y = ({ Dk with ch := updC Dk.ch y (some ⟨c.buf, c.on, c.ab ++ [i], c.cb, c.om, v'⟩) } : Gd).abs := by
    rw [abs_ch]
    unfold Ga.hang
    rw [hdat]
    rfl
  refine ⟨c.av, v', W7, (h1.cellsC hcy).2.2.2.1, hslice _ _ _ ⟨_, hrow⟩, hr, hslice _ _ _ ⟨_, ho7⟩, blk_free hblk7 3, (blk_cell hblk7 3).trans rfl, ⟨hsm7 _ (by omega) (by omega), hsm7 _ (Nat.le_refl _) (by omega)⟩, hcbne.1, hcbne.2, ?_, ?_⟩
  · rw [← hW8]
    refine ⟨(hsm _ (by omega) (by omega)).trans h.b0, (hsm _ (by omega) (by omega)).trans h.o0, (hsm _ (by omega) (by omega)).trans h.o1, lat_keep h.row (fun a e hm => ?_) hs8, Nat.le_trans h.sz hs8, ?_, ?_, _, om, hg8.mono (fun k _ hk => ?_), ?_, ?_, ?_, (hsm _ (Nat.le_refl _) (by omega)).trans h5, h6.kept (fun b hb => ?_), fun k hk => ⟨(h7 k hk).1, Nat.lt_of_lt_of_le (h7 k hk).2.1 hs8, ?_⟩⟩
    · have hro := hc.ro a e hm
      refine hO8.block _ (by have := h.sz; omega) (fun hh => ?_)
      have : (F a.block ∧ a.block < w.heap.size) ∨ w5.heap.size + 2 ≤ a.block := by
        rcases hh with e' | e' | e'
        · rw [e']; exact hFc.1
        · exact (h1.own (.on y) _ ⟨c, hcy, e'⟩).1
        · exact (hav _ e').2
      rcases this with h' | h'
      · exact hro.2 h'.1
      · omega
    · refine h.on.trans hO8 (fun k hk => ?_)
      have : (F k ∧ k < w.heap.size) ∨ w5.heap.size + 2 ≤ k := by
        rcases hk with e' | e' | e'
        · rw [e']; exact hFc.1
        · exact (h1.own (.on y) _ ⟨c, hcy, e'⟩).1
        · exact (hav _ e').2
      rcases this with h' | h'
      · exact .inl h'.1
      · exact .inr (by omega)
    · intro z hz
      have hzy : z ≠ y := fun e => hz (e ▸ hyp)
      show (p.2.hang i y).ch z = _
      rw [← h.un z hz, ← h2]
      unfold Ga.hang
      rw [hdat]
      exact updC_other _ _ hzy
    · rcases hk with hk | hk
      · exact hk
      · exact .inr (by omega)
    · rw [← hun2, h2]
    · rw [← hun2]
      exact h3.hang i y
    · intro z
      rw [← h4 z]
      by_cases e : z = y
      · subst e
        show (updC Dk.ch z _ z).map _ = _
        rw [updC_same, hcy]; rfl
      · show (updC Dk.ch y _ z).map _ = _
        rw [updC_other _ _ e]
    · refine hO8.block b (h7 b hb).2.1 (fun hh => ?_)
      rcases hh with e' | e' | e'
      · exact (h7 b hb).2.2 (.ch y) ⟨c, hcy, e'.symm⟩
      · exact (h7 b hb).2.2 (.on y) ⟨c, hcy, e'⟩
      · exact (h7 b hb).2.2 (.ab y) ⟨c, hcy, e'⟩
    · intro n hn
      have hk2 := (h7 k hk)
      cases n with
      | ch z =>
        obtain ⟨c', hc', hk'⟩ := hn
        by_cases e : z = y
        · subst e
          have e1 := (updC_same Dk.ch z (some (⟨c.buf, c.on, c.ab ++ [i], c.cb, c.om, v'⟩ : Cx))).symm.trans hc'
          cases e1
          exact hk2.2.2 (.ch z) ⟨c, hcy, hk'⟩
        · exact hk2.2.2 (.ch z) ⟨c', (updC_other Dk.ch _ e).symm.trans hc', hk'⟩
      | on z =>
        obtain ⟨c', hc', hk'⟩ := hn
        by_cases e : z = y
        · subst e
          have e1 := (updC_same Dk.ch z (some (⟨c.buf, c.on, c.ab ++ [i], c.cb, c.om, v'⟩ : Cx))).symm.trans hc'
          cases e1
          exact hk2.2.2 (.on z) ⟨c, hcy, hk'⟩
        · exact hk2.2.2 (.on z) ⟨c', (updC_other Dk.ch _ e).symm.trans hc', hk'⟩
      | ab z =>
        obtain ⟨c', hc', hk'⟩ := hn
        by_cases e : z = y
        · subst e
          have e1 := (updC_same Dk.ch z (some (⟨c.buf, c.on, c.ab ++ [i], c.cb, c.om, v'⟩ : Cx))).symm.trans hc'
          cases e1
          rcases hv7 with hv | hv
          · exact hk2.2.2 (.ab z) ⟨c, hcy, hv ▸ hk'⟩
          · have := hv k hk'
            omega
        · exact hk2.2.2 (.ab z) ⟨c', (updC_other Dk.ch _ e).symm.trans hc', hk'⟩
      | g => exact hk2.2.2 .g hn
      | left => exact hk2.2.2 .left hn
      | bufs => exact hk2.2.2 .bufs hn
      | bf z => exact hk2.2.2 (.bf z) hn
      | nx z => exact hk2.2.2 (.nx z) hn
      | bl z => exact hk2.2.2 (.bl z) hn
  · rw [← hW8]
    exact ⟨hsm _ (by omega) (by omega), hsm _ (by omega) (by omega)⟩
end
end Go.Proofs.Ythmbhcmicebcpaa
