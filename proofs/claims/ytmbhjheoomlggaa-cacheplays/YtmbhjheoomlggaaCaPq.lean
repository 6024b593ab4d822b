/-
  A cache and the model of one, side by side.
-/
import Derived.Test.YtmbhjheoomlggaaCaPair
namespace Go.Proofs.Ytmbhjheoomlggaa
open Go Go.Proofs Go.RowKit Go.Shelf
structure Pf (Fa Fm Fe X : Nat → Prop) (w W : World) (c d mm e size : Nat) (ra : Int) (ks : List Kb) (sa : Dk.DS) (rm : Int) (lv : Value) (ms : List Md) (se : Dk.DS) : Prop where
  ca : CdAt Fa W c d size ra ks sa
  mo : MoAt Fm W mm lv e size rm ms
  dk : Dk.DiskAt Fe W e se
  am : ∀ k, Fa k → ¬ Fm k
  ae : ∀ k, Fa k → ¬ Fe k
  me : ∀ k, Fm k → ¬ Fe k
  fa : ∀ k, Fa k → w.heap.size ≤ k ∧ k < W.heap.size ∧ ¬ X k
  fm : ∀ k, Fm k → w.heap.size ≤ k ∧ k < W.heap.size ∧ ¬ X k
  fe : ∀ k, Fe k → w.heap.size ≤ k ∧ k < W.heap.size ∧ ¬ X k
  xl : ∀ k, X k → w.heap.size ≤ k ∧ k < W.heap.size
  bel : Below w.heap.size w W
/-- A cache over a disk and the model of one over another, both made since w; the blocks of X lie beside them. -/
def Pq (X : Nat → Prop) (w W : World) (c d mm e size : Nat) (ra : Int) (ks : List Kb) (sa : Dk.DS) (rm : Int) (lv : Value) (ms : List Md) (se : Dk.DS) : Prop := ∃ Fa Fm Fe, Pf Fa Fm Fe X w W c d mm e size ra ks sa rm lv ms se
def Kx (X : Nat → Prop) (W W' : World) : Prop := ∀ k, X k → W'.heap[k]? = W.heap[k]?
section
variable {Fa Fm Fe X X' F' : Nat → Prop} {w W W' : World} {c d mm e size : Nat} {ra ra' rm rm' : Int} {ks ks' : List Kb} {sa sa' se se' : Dk.DS} {lv lv' : Value} {ms ms' : List Md}
theorem Pf.onA (h : Pf Fa Fm Fe X w W c d mm e size ra ks sa rm lv ms se) (hO : Only Fa W W') (hC : CdAt F' W' c d size ra' ks' sa') (hF : ∀ k, k < W'.heap.size → F' k → (Fa k ∨ W.heap.size ≤ k) ∧ ¬ X' k) (hX : ∀ k, X' k → k < W'.heap.size ∧ (X k ∨ W.heap.size ≤ k)) : Pq X' w W' c d mm e size ra' ks' sa' rm lv ms se ∧ Kx X W W' := by
  have hs := hO.size
  have hb := h.bel.size
  refine ⟨⟨fun k => F' k ∧ k < W'.heap.size, Fm, Fe, hC.mono (fun k hk hf => ⟨hf, hk⟩), h.mo.only hO (fun k _ hf hs => h.am k hs hf), h.dk.only hO (fun k _ hf hs => h.ae k hs hf), ?_, ?_, h.me, ?_, ?_, ?_, ?_, h.bel.trans (hO.below h.bel.size (fun k hk => (h.fa k hk).1))⟩, fun k hx => hO.block k (h.xl k hx).2 (fun hf => (h.fa k hf).2.2 hx)⟩
  · rintro k ⟨hf, hk⟩ hm
    rcases (hF k hk hf).1 with h1 | h1
    · exact h.am k h1 hm
    · have := (h.fm k hm).2.1; omega
  · rintro k ⟨hf, hk⟩ hm
    rcases (hF k hk hf).1 with h1 | h1
    · exact h.ae k h1 hm
    · have := (h.fe k hm).2.1; omega
  · rintro k ⟨hf, hk⟩
    refine ⟨?_, hk, (hF k hk hf).2⟩
    rcases (hF k hk hf).1 with h1 | h1
    · exact (h.fa k h1).1
    · omega
  · intro k hm
    obtain ⟨q1, q2, q3⟩ := h.fm k hm
    exact ⟨q1, by omega, fun hx => (hX k hx).2.elim q3 (fun h => by omega)⟩
  · intro k hm
    obtain ⟨q1, q2, q3⟩ := h.fe k hm
    exact ⟨q1, by omega, fun hx => (hX k hx).2.elim q3 (fun h => by omega)⟩
  · intro k hx
    obtain ⟨q1, q2⟩ := hX k hx
    exact ⟨q2.elim (fun h' => (h.xl k h').1) (fun h => by omega), q1⟩
theorem Pf.onM (h : Pf Fa Fm Fe X w W c d mm e size ra ks sa rm lv ms se) (hO : Only Fm W W') (hC : MoAt F' W' mm lv' e size rm' ms') (hF : ∀ k, k < W'.heap.size → F' k → (Fm k ∨ W.heap.size ≤ k) ∧ ¬ X' k) (hX : ∀ k, X' k → k < W'.heap.size ∧ (X k ∨ W.heap.size ≤ k)) : Pq X' w W' c d mm e size ra ks sa rm' lv' ms' se ∧ Kx X W W' := by
  have hs := hO.size
  have hb := h.bel.size
  refine ⟨⟨Fa, fun k => F' k ∧ k < W'.heap.size, Fe, h.ca.only hO (fun k _ hf hs => h.am k hf hs), hC.mono (fun k hk hf => ⟨hf, hk⟩), h.dk.only hO (fun k _ hf hs => h.me k hs hf), ?_, h.ae, ?_, ?_, ?_, ?_, ?_, h.bel.trans (hO.below h.bel.size (fun k hk => (h.fm k hk).1))⟩, fun k hx => hO.block k (h.xl k hx).2 (fun hf => (h.fm k hf).2.2 hx)⟩
  · rintro k hm ⟨hf, hk⟩
    rcases (hF k hk hf).1 with h1 | h1
    · exact h.am k hm h1
    · have := (h.fa k hm).2.1; omega
  · rintro k ⟨hf, hk⟩ hm
    rcases (hF k hk hf).1 with h1 | h1
    · exact h.me k h1 hm
    · have := (h.fe k hm).2.1; omega
  · intro k hm
    obtain ⟨q1, q2, q3⟩ := h.fa k hm
    exact ⟨q1, by omega, fun hx => (hX k hx).2.elim q3 (fun h => by omega)⟩
  · rintro k ⟨hf, hk⟩
    refine ⟨?_, hk, (hF k hk hf).2⟩
    rcases (hF k hk hf).1 with h1 | h1
    · exact (h.fm k h1).1
    · omega
  · intro k hm
    obtain ⟨q1, q2, q3⟩ := h.fe k hm
    exact ⟨q1, by omega, fun hx => (hX k hx).2.elim q3 (fun h => by omega)⟩
  · intro k hx
    obtain ⟨q1, q2⟩ := hX k hx
    exact ⟨q2.elim (fun h' => (h.xl k h').1) (fun h => by omega), q1⟩
theorem Pf.onE (h : Pf Fa Fm Fe X w W c d mm e size ra ks sa rm lv ms se) (hO : Only Fe W W') (hC : Dk.DiskAt F' W' e se') (hF : ∀ k, k < W'.heap.size → F' k → (Fe k ∨ W.heap.size ≤ k) ∧ ¬ X' k) (hX : ∀ k, X' k → k < W'.heap.size ∧ (X k ∨ W.heap.size ≤ k)) : Pq X' w W' c d mm e size ra ks sa rm lv ms se' ∧ Kx X W W' := by
  have hs := hO.size
  have hb := h.bel.size
  refine ⟨⟨Fa, Fm, fun k => F' k ∧ k < W'.heap.size, h.ca.only hO (fun k _ hf hs => h.ae k hf hs), h.mo.only hO (fun k _ hf hs => h.me k hf hs), hC.mono (fun k hk hf => ⟨hf, hk.lt⟩), h.am, ?_, ?_, ?_, ?_, ?_, ?_, h.bel.trans (hO.below h.bel.size (fun k hk => (h.fe k hk).1))⟩, fun k hx => hO.block k (h.xl k hx).2 (fun hf => (h.fe k hf).2.2 hx)⟩
  · rintro k hm ⟨hf, hk⟩
    rcases (hF k hk hf).1 with h1 | h1
    · exact h.ae k hm h1
    · have := (h.fa k hm).2.1; omega
  · rintro k hm ⟨hf, hk⟩
    rcases (hF k hk hf).1 with h1 | h1
    · exact h.me k hm h1
    · have := (h.fm k hm).2.1; omega
  · intro k hm
    obtain ⟨q1, q2, q3⟩ := h.fa k hm
    exact ⟨q1, by omega, fun hx => (hX k hx).2.elim q3 (fun h => by omega)⟩
  · intro k hm
    obtain ⟨q1, q2, q3⟩ := h.fm k hm
    exact ⟨q1, by omega, fun hx => (hX k hx).2.elim q3 (fun h => by omega)⟩
  · rintro k ⟨hf, hk⟩
    refine ⟨?_, hk, (hF k hk hf).2⟩
    rcases (hF k hk hf).1 with h1 | h1
    · exact (h.fe k h1).1
    · omega
  · intro k hx
    obtain ⟨q1, q2⟩ := hX k hx
    exact ⟨q2.elim (fun h' => (h.xl k h').1) (fun h => by omega), q1⟩
/-- Blocks beside them turn, and new ones come. -/
theorem Pq.side (h : Pq X w W c d mm e size ra ks sa rm lv ms se) (hO : Only X W W') (hX : ∀ k, X' k → k < W'.heap.size ∧ (X k ∨ W.heap.size ≤ k)) : Pq X' w W' c d mm e size ra ks sa rm lv ms se := by
  obtain ⟨Fa, Fm, Fe, h⟩ := h
  have hs := hO.size
  have hb := h.bel.size
  have q : ∀ k, (w.heap.size ≤ k ∧ k < W.heap.size ∧ ¬ X k) → w.heap.size ≤ k ∧ k < W'.heap.size ∧ ¬ X' k := fun k ⟨q1, q2, q3⟩ => ⟨q1, by omega, fun hx => (hX k hx).2.elim q3 (fun h => by omega)⟩
  refine ⟨Fa, Fm, Fe, h.ca.only hO (fun k _ hf => (h.fa k hf).2.2), h.mo.only hO (fun k _ hf => (h.fm k hf).2.2), h.dk.only hO (fun k _ hf => (h.fe k hf).2.2), h.am, h.ae, h.me, fun k hk => q k (h.fa k hk), fun k hk => q k (h.fm k hk), fun k hk => q k (h.fe k hk), fun k hx => ?_, h.bel.trans (hO.below h.bel.size (fun k hk => (h.xl k hk).1))⟩
  obtain ⟨q1, q2⟩ := hX k hx
  exact ⟨q2.elim (fun h' => (h.xl k h').1) (fun h => by omega), q1⟩
theorem Pq.nums (h : Pq X w W c d mm e size ra ks sa rm lv ms se) : (ks.map (·.num)).Nodup := by
  obtain ⟨Fa, Fm, Fe, h⟩ := h
  exact h.ca.nums
/-- Get of the cache. -/
theorem q_get_yes (h : Pq X w W c d mm e size ra ks sa rm lv ms se) (n : Int) (hw : (Lit.int .i64 n).wf = true) (hf : Fine ra ks sa) (x : Kb) (hx : gotK sa ks n = some x) :
    Calls Try.prog 12 #[ptV c, .int .i64 n] W fun r W' => ∃ g cap, r = .returned (.tuple #[.slice (some ⟨g, 0, none⟩) 1024 cap, .bool true]) ∧ W.heap.size ≤ g ∧ W'.ownsRow W.heap.size 5 1 (.slice (some ⟨g, 0, none⟩) 1024 cap) 1024 (By x.dat) ∧ Pq (fun k => X k ∨ k = g) w W' c d mm e size (rdK ks ra n) (getL size ks x) sa rm lv ms se ∧ Kx X W W' := by
  obtain ⟨Fa, Fm, Fe, h⟩ := h
  refine (cd_get_yes h.ca n hw hf x hx).mono ?_
  rintro r W' ⟨g, cap, rfl, hg, hrow, hC, hO⟩
  have hs := hO.size
  have := h.onA (X' := fun k => X k ∨ k = g) hO hC (fun k hk hf => ⟨hf.1, ?_⟩) (fun k hk => ?_)
  · exact ⟨g, cap, rfl, hg, hrow, this⟩
  · rintro (hx | hx)
    · rcases hf.1 with h1 | h1
      · exact (h.fa k h1).2.2 hx
      · have := (h.xl k hx).2; omega
    · exact hf.2 hx
  · rcases hk with hk | rfl
    · exact ⟨by have := (h.xl k hk).2; omega, .inl hk⟩
    · exact ⟨(hrow.lt _ rfl).2, .inr hg⟩
theorem Pf.same (h : Pf Fa Fm Fe X w W c d mm e size ra ks sa rm lv ms se) (hs : W.heap.size ≤ W'.heap.size) (k : Nat) (hx : X k) : k < W'.heap.size ∧ (X k ∨ W.heap.size ≤ k) := ⟨by have := (h.xl k hx).2; omega, .inl hx⟩
theorem Pf.noX {G : Nat → Prop} (h : Pf Fa Fm Fe X w W c d mm e size ra ks sa rm lv ms se) (hG : ∀ k, G k → ¬ X k) (k : Nat) (hk : G k ∨ W.heap.size ≤ k) : (G k ∨ W.heap.size ≤ k) ∧ ¬ X k := ⟨hk, fun hx => hk.elim (fun h1 => hG k h1 hx) (fun h1 => by have := (h.xl k hx).2; omega)⟩
theorem q_get_no (h : Pq X w W c d mm e size ra ks sa rm lv ms se) (n : Int) (hw : (Lit.int .i64 n).wf = true) (hf : Fine ra ks sa) (hx : gotK sa ks n = none) :
    Calls Try.prog 12 #[ptV c, .int .i64 n] W fun r W' => r = .returned (.tuple #[.slice none 0 0, .bool false]) ∧ Pq X w W' c d mm e size (ra + 1) ks sa rm lv ms se ∧ Kx X W W' := by
  obtain ⟨Fa, Fm, Fe, h⟩ := h
  refine (cd_get_no h.ca n hw hf hx).mono ?_
  rintro r W' ⟨rfl, hC, hO⟩
  exact ⟨rfl, h.onA hO hC (fun k _ hf => h.noX (fun k hk => (h.fa k hk).2.2) k (.inl hf)) (fun k hk => h.same hO.size k hk)⟩
theorem q_release (h : Pq X w W c d mm e size ra ks sa rm lv ms se) (n : Int) (hw : (Lit.int .i64 n).wf = true) (hf : Fine ra ks sa) :
    Calls Try.prog 15 #[ptV c, .int .i64 n] W fun r W' => r = .returned (.bool (relB ks n)) ∧ Pq X w W' c d mm e size ra (relL size ks n) sa rm lv ms se ∧ Kx X W W' := by
  obtain ⟨Fa, Fm, Fe, h⟩ := h
  refine (cd_release h.ca n hw hf).mono ?_
  rintro r W' ⟨rfl, hC, hO⟩
  exact ⟨rfl, h.onA hO hC (fun k _ hf => h.noX (fun k hk => (h.fa k hk).2.2) k (.inl hf)) (fun k hk => h.same hO.size k hk)⟩
theorem q_put (h : Pq X w W c d mm e size ra ks sa rm lv ms se) (n : Int) (hw : (Lit.int .i64 n).wf = true) (hf : Fine ra ks sa) (ao : Option Addr) (bl bc : Nat) (ys : List Int) (hy : BAt W ao bl ys) :
    Calls Try.prog 17 #[ptV c, .int .i64 n, .slice ao bl bc] W fun r W' => r = .returned (.bool (putB ks n ys)) ∧ Pq X w W' c d mm e size ra (putL ks n ys) sa rm lv ms se ∧ Kx X W W' := by
  obtain ⟨Fa, Fm, Fe, h⟩ := h
  refine (cd_put h.ca n hw hf ao bl bc ys hy).mono ?_
  rintro r W' ⟨rfl, hC, hO⟩
  exact ⟨rfl, h.onA hO hC (fun k _ hf => h.noX (fun k hk => (h.fa k hk).2.2) k hf) (fun k hk => h.same hO.size k hk)⟩
theorem q_flush (h : Pq X w W c d mm e size ra ks sa rm lv ms se) (n : Int) (hw : (Lit.int .i64 n).wf = true) (hf : Fine ra ks sa) (N : Nat) (hs : Dk.Sane sa N) (hN : N ≤ 900000) :
    Calls Try.prog 19 #[ptV c, .int .i64 n] W fun r W' => r = .returned (.bool (fluB ks sa n)) ∧ Pq X w W' c d mm e size ra (fluL size ks sa n) (fluS ks sa n) rm lv ms se ∧ Kx X W W' := by
  obtain ⟨Fa, Fm, Fe, h⟩ := h
  refine (cd_flush h.ca n hw hf N hs hN).mono ?_
  rintro r W' ⟨rfl, hC, hO⟩
  exact ⟨rfl, h.onA hO hC (fun k _ hf => h.noX (fun k hk => (h.fa k hk).2.2) k hf) (fun k hk => h.same hO.size k hk)⟩
theorem q_cutA (h : Pq X w W c d mm e size ra ks sa rm lv ms se) (n : Int) :
    Calls Try.prog 20 #[ptV d, .int .i64 n] W fun r W' => r = .returned (.tuple #[]) ∧ Pq X w W' c d mm e size ra ks { sa with cut := decide (0 ≤ n), left := max n 0 } rm lv ms se ∧ Kx X W W' := by
  obtain ⟨Fa, Fm, Fe, h⟩ := h
  obtain ⟨Fd, hD, hsub, hcl⟩ := h.ca.disk
  refine (Dk.cut_any Fd W d sa hD n).mono ?_
  rintro r W' ⟨rfl, hD', hO'⟩
  obtain ⟨hC, hO⟩ := hcl W' _ hO' (hD'.mono (fun k _ hk => .inl hk))
  exact ⟨rfl, h.onA hO hC (fun k _ hf => h.noX (fun k hk => (h.fa k hk).2.2) k hf) (fun k hk => h.same hO.size k hk)⟩
theorem q_startA (h : Pq X w W c d mm e size ra ks sa rm lv ms se) :
    Calls Try.prog 21 #[ptV d] W fun r W' => r = .returned (.tuple #[]) ∧ Pq X w W' c d mm e size ra ks { sa with dead := false, cut := false, left := 0 } rm lv ms se ∧ Kx X W W' := by
  obtain ⟨Fa, Fm, Fe, h⟩ := h
  obtain ⟨Fd, hD, hsub, hcl⟩ := h.ca.disk
  refine (Dk.start_any Fd W d sa hD).mono ?_
  rintro r W' ⟨rfl, hD', hO'⟩
  obtain ⟨hC, hO⟩ := hcl W' _ hO' (hD'.mono (fun k _ hk => .inl hk))
  exact ⟨rfl, h.onA hO hC (fun k _ hf => h.noX (fun k hk => (h.fa k hk).2.2) k hf) (fun k hk => h.same hO.size k hk)⟩
theorem q_cutE (h : Pq X w W c d mm e size ra ks sa rm lv ms se) (n : Int) :
    Calls Try.prog 20 #[ptV e, .int .i64 n] W fun r W' => r = .returned (.tuple #[]) ∧ Pq X w W' c d mm e size ra ks sa rm lv ms { se with cut := decide (0 ≤ n), left := max n 0 } ∧ Kx X W W' := by
  obtain ⟨Fa, Fm, Fe, h⟩ := h
  refine (Dk.cut_any Fe W e se h.dk n).mono ?_
  rintro r W' ⟨rfl, hC, hO⟩
  exact ⟨rfl, h.onE hO hC (fun k _ hf => h.noX (fun k hk => (h.fe k hk).2.2) k (.inl hf)) (fun k hk => h.same hO.size k hk)⟩
theorem q_startE (h : Pq X w W c d mm e size ra ks sa rm lv ms se) :
    Calls Try.prog 21 #[ptV e] W fun r W' => r = .returned (.tuple #[]) ∧ Pq X w W' c d mm e size ra ks sa rm lv ms { se with dead := false, cut := false, left := 0 } ∧ Kx X W W' := by
  obtain ⟨Fa, Fm, Fe, h⟩ := h
  refine (Dk.start_any Fe W e se h.dk).mono ?_
  rintro r W' ⟨rfl, hC, hO⟩
  exact ⟨rfl, h.onE hO hC (fun k _ hf => h.noX (fun k hk => (h.fe k hk).2.2) k (.inl hf)) (fun k hk => h.same hO.size k hk)⟩
/-- The model's disk is written, with a block that the model keeps. -/
theorem q_write (h : Pq X w W c d mm e size ra ks sa rm lv ms se) (hi : se.img.length ≤ 20480000) (N : Nat) (hs : Dk.Sane se N) (hN : N ≤ 900000) (n : Int) (m : Md) (hm : m ∈ ms) :
    Calls Try.prog 18 #[ptV e, .int .i64 n, .slice (some ⟨m.g, 0, none⟩) 1024 m.cap] W fun r W' => r = .returned (.bool (Dk.wrS se n m.kb.dat).1) ∧ Pq X w W' c d mm e size ra ks sa rm lv ms (Dk.wrS se n m.kb.dat).2 ∧ Kx X W W' := by
  obtain ⟨Fa, Fm, Fe, h⟩ := h
  obtain ⟨hrow, hFg⟩ := h.mo.dat m hm
  obtain ⟨hcap, hB⟩ : 1024 ≤ m.cap ∧ BAt W (some ⟨m.g, 0, none⟩) 1024 m.kb.dat := by
    refine ⟨?_, ?_⟩
    · rcases hrow.2 with ⟨hq, _⟩ | ⟨q, cap, cur, hq, _, _, hnc, _⟩
      · cases hq
      · cases hq; exact hnc
    · obtain ⟨ao, cc, hv, hB, _⟩ := owns_BAt hrow
      cases hv
      exact hB
  refine (Dk.write_any Fe W e se N h.dk hi hs hN n _ 1024 m.cap m.kb.dat hB hcap (by omega) (fun a ha _ => by cases ha; exact h.me _ hFg)).mono ?_
  rintro r W' ⟨rfl, hC, hO⟩
  exact ⟨rfl, h.onE hO hC (fun k _ hf => h.noX (fun k hk => (h.fe k hk).2.2) k hf) (fun k hk => h.same hO.size k hk)⟩
/-- What is too much for the model goes. -/
theorem q_mshrink (h : Pq X w W c d mm e size ra ks sa rm lv ms se) (hl : ms.length ≤ 900000) :
    Calls Try.prog 14 #[ptV mm] W fun r W' => r = .returned (.tuple #[]) ∧ ∃ lv' ms', ms'.map Md.kb = shk size (ms.map Md.kb) ∧ Pq X w W' c d mm e size ra ks sa rm lv' ms' se ∧ Kx X W W' := by
  obtain ⟨Fa, Fm, Fe, h⟩ := h
  refine (mshrink_any h.mo rfl (by omega)).mono ?_
  rintro r W' ⟨rfl, lv', ms', hM, hk, hO, _⟩
  exact ⟨rfl, lv', ms', hk, h.onM hO hM (fun k _ hf => h.noX (fun k hk => (h.fm k hk).2.2) k (hf.elim (fun h => .inl (by first | exact h.1 | exact h)) .inr)) (fun k hk => h.same hO.size k hk)⟩
end
end Go.Proofs.Ytmbhjheoomlggaa
