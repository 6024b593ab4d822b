/-
  Two disks and the model of the statement DiskPlays, apart from one another; what a call on one of them leaves of the others.
-/
import Derived.Test.YtochgjajlojfeaaModelWrite
namespace Go.Proofs.Ytochgjajlojfeaa
open Go Go.Proofs Go.RowKit Go.Shelf

/-- A disk, another one and the model: apart from one another, above base, none of their blocks in X. -/
def Tri (base : Nat) (X : Nat → Prop) (W : World) (d o m : Nat) (s so sm : DS) : Prop :=
  ∃ FD FO FM : Nat → Prop, DiskAt FD W d s ∧ DiskAt FO W o so ∧ ModelAt FM W m sm ∧
    (∀ k, FD k → base ≤ k ∧ k < W.heap.size ∧ ¬ X k ∧ ¬ FO k ∧ ¬ FM k) ∧ (∀ k, FO k → base ≤ k ∧ k < W.heap.size ∧ ¬ X k ∧ ¬ FM k) ∧ (∀ k, FM k → base ≤ k ∧ k < W.heap.size ∧ ¬ X k)

theorem Tri.only {base : Nat} {X : Nat → Prop} {W W' : World} {d o m : Nat} {s so sm : DS} (h : Tri base X W d o m s so sm) (ho : Only X W W') : Tri base X W' d o m s so sm := by
  obtain ⟨FD, FO, FM, h1, h2, h3, k1, k2, k3⟩ := h
  have hs := ho.size
  exact ⟨FD, FO, FM, h1.only ho (fun k _ e => (k1 k e).2.2.1), h2.only ho (fun k _ e => (k2 k e).2.2.1), h3.only ho (fun k _ e => (k3 k e).2.2),
    fun k e => ⟨(k1 k e).1, by have := (k1 k e).2.1; omega, (k1 k e).2.2⟩, fun k e => ⟨(k2 k e).1, by have := (k2 k e).2.1; omega, (k2 k e).2.2⟩, fun k e => ⟨(k3 k e).1, by have := (k3 k e).2.1; omega, (k3 k e).2.2⟩⟩

theorem Tri.avoid {base : Nat} {X Y : Nat → Prop} {W : World} {d o m : Nat} {s so sm : DS} (h : Tri base X W d o m s so sm) (hy : ∀ k, Y k → X k ∨ W.heap.size ≤ k ∨ k < base) : Tri base Y W d o m s so sm := by
  obtain ⟨FD, FO, FM, h1, h2, h3, k1, k2, k3⟩ := h
  have key : ∀ k, base ≤ k → k < W.heap.size → ¬ X k → ¬ Y k := fun k a b c e => by
    rcases hy k e with e | e | e
    · exact c e
    · omega
    · omega
  exact ⟨FD, FO, FM, h1, h2, h3, fun k e => ⟨(k1 k e).1, (k1 k e).2.1, key k (k1 k e).1 (k1 k e).2.1 (k1 k e).2.2.1, (k1 k e).2.2.2⟩,
    fun k e => ⟨(k2 k e).1, (k2 k e).2.1, key k (k2 k e).1 (k2 k e).2.1 (k2 k e).2.2.1, (k2 k e).2.2.2⟩, fun k e => ⟨(k3 k e).1, (k3 k e).2.1, key k (k3 k e).1 (k3 k e).2.1 (k3 k e).2.2⟩⟩

theorem Tri.drew {base : Nat} {X : Nat → Prop} {W : World} {d o m : Nat} {s so sm : DS} (h : Tri base X W d o m s so sm) : Tri base X W.drew d o m s so sm := h.only (Only.refl X W).drew

theorem Tri.disk {base : Nat} {X : Nat → Prop} {W : World} {d o m : Nat} {s so sm : DS} (h : Tri base X W d o m s so sm) : ∃ F, DiskAt F W d s := by
  obtain ⟨FD, FO, FM, h1, h2, h3, k1, k2, k3⟩ := h
  exact ⟨FD, h1⟩

theorem Tri.model {base : Nat} {X : Nat → Prop} {W : World} {d o m : Nat} {s so sm : DS} (h : Tri base X W d o m s so sm) :
    base ≤ m ∧ m < W.heap.size ∧ ¬ X m ∧ ∃ bi lv, W.heap[m]? = some (.cells #[.slice (some ⟨bi, 0, none⟩) sm.img.length sm.img.length, lv, .int .i64 (mcut sm), .bool sm.dead] 30 (0, 0)) ∧ bi < W.heap.size ∧
      W.heap[bi]? = some (.cells (By sm.img).toArray 5 (0, 0)) ∧ ∃ cells, W.ownsRow 0 41 2 lv sm.log.length cells ∧ LogCells (fun _ => True) W cells sm.log := by
  obtain ⟨FD, FO, FM, h1, h2, ⟨h0, bi, lv, hb, hr⟩, k1, k2, k3⟩ := h
  obtain ⟨r1, r2, cells, r3, r4, r5⟩ := hr
  exact ⟨(k3 m h0).1, (k3 m h0).2.1, (k3 m h0).2.2, bi, lv, hb, lt_of_block r2, r2, cells, r3, r5.mono (fun _ _ _ => trivial)⟩

theorem Tri.put_d {base : Nat} {X FD FO FM : Nat → Prop} {W W' : World} {d o m : Nat} {s' so sm : DS} (h2 : DiskAt FO W o so) (h3 : ModelAt FM W m sm)
    (k1 : ∀ k, FD k → base ≤ k ∧ k < W.heap.size ∧ ¬ X k ∧ ¬ FO k ∧ ¬ FM k) (k2 : ∀ k, FO k → base ≤ k ∧ k < W.heap.size ∧ ¬ X k ∧ ¬ FM k) (k3 : ∀ k, FM k → base ≤ k ∧ k < W.heap.size ∧ ¬ X k)
    (hX : ∀ k, X k → k < W.heap.size) (hb : base ≤ W.heap.size) (r1 : DiskAt (fun k => FD k ∨ W.heap.size ≤ k) W' d s') (r2 : Only FD W W') :
    Tri base X W' d o m s' so sm ∧ Only (fun k => base ≤ k ∧ ¬ X k) W W' := by
  have hs := r2.size
  refine ⟨⟨fun k => (FD k ∨ W.heap.size ≤ k) ∧ k < W'.heap.size, FO, FM, r1.mono (fun k hk e => ⟨e, hk.lt⟩), h2.only r2 (fun k _ e e' => (k1 k e').2.2.2.1 e), h3.only r2 (fun k _ e e' => (k1 k e').2.2.2.2 e), ?_, ?_, ?_⟩, r2.mono (fun k _ e => ⟨(k1 k e).1, (k1 k e).2.2.1⟩)⟩
  · rintro k ⟨e | e, hk⟩
    · exact ⟨(k1 k e).1, hk, (k1 k e).2.2⟩
    · exact ⟨by omega, hk, fun x => by have := hX k x; omega, fun x => by have := (k2 k x).2.1; omega, fun x => by have := (k3 k x).2.1; omega⟩
  · exact fun k e => ⟨(k2 k e).1, by have := (k2 k e).2.1; omega, (k2 k e).2.2⟩
  · exact fun k e => ⟨(k3 k e).1, by have := (k3 k e).2.1; omega, (k3 k e).2.2⟩

theorem tri_write_d {base : Nat} {X : Nat → Prop} {W : World} {d o m : Nat} {s so sm : DS} (h : Tri base X W d o m s so sm) (hX : ∀ k, X k → k < W.heap.size) (hbs : base ≤ W.heap.size) (L : Nat) (hn : s.img.length ≤ 20480000) (hs : Sane s L) (hL : L ≤ 900000)
    (block : Int) (ao : Option Addr) (n c : Nat) (xs : List Int) (hb : BAt W ao n xs) (hmc : n ≤ c) (hm : n ≤ 140737488355328) (haX : ∀ a, ao = some a → 0 < n → X a.block ∨ a.block < base) :
    Calls Try.prog 9 #[.pointer (some ⟨d, 0, none⟩), .int .i64 block, .slice ao n c] W fun e W' => e = .returned (.bool (wrS s block xs).1) ∧
      Tri base X W' d o m (wrS s block xs).2 so sm ∧ Only (fun k => base ≤ k ∧ ¬ X k) W W' := by
  obtain ⟨FD, FO, FM, h1, h2, h3, k1, k2, k3⟩ := h
  refine (write_any FD W d s L h1 hn hs hL block ao n c xs hb hmc hm (fun a e h0 hF => ?_)).mono ?_
  · rcases haX a e h0 with x | x
    · exact (k1 _ hF).2.2.1 x
    · have := (k1 _ hF).1; omega
  · rintro e W' ⟨rfl, r1, r2⟩
    exact ⟨rfl, Tri.put_d h2 h3 k1 k2 k3 hX hbs r1 r2⟩

theorem Tri.swap {base : Nat} {X : Nat → Prop} {W : World} {d o m : Nat} {s so sm : DS} (h : Tri base X W d o m s so sm) : Tri base X W o d m so s sm := by
  obtain ⟨FD, FO, FM, h1, h2, h3, k1, k2, k3⟩ := h
  exact ⟨FO, FD, FM, h2, h1, h3, fun k e => ⟨(k2 k e).1, (k2 k e).2.1, (k2 k e).2.2.1, fun x => (k1 k x).2.2.2.1 e, (k2 k e).2.2.2⟩, fun k e => ⟨(k1 k e).1, (k1 k e).2.1, (k1 k e).2.2.1, (k1 k e).2.2.2.2⟩, k3⟩

theorem tri_cut {base : Nat} {X : Nat → Prop} {W : World} {d o m : Nat} {s so sm : DS} (h : Tri base X W d o m s so sm) (hX : ∀ k, X k → k < W.heap.size) (hbs : base ≤ W.heap.size) (n : Int) :
    Calls Try.prog 12 #[.pointer (some ⟨d, 0, none⟩), .int .i64 n] W fun e W' => e = .returned (.tuple #[]) ∧ Tri base X W' d o m { s with cut := decide (0 ≤ n), left := max n 0 } so sm ∧ Only (fun k => base ≤ k ∧ ¬ X k) W W' := by
  obtain ⟨FD, FO, FM, h1, h2, h3, k1, k2, k3⟩ := h
  refine (cut_any FD W d s h1 n).mono ?_
  rintro e W' ⟨rfl, r1, r2⟩
  exact ⟨rfl, Tri.put_d h2 h3 k1 k2 k3 hX hbs (r1.mono (fun k _ e => .inl e)) r2⟩

theorem tri_start {base : Nat} {X : Nat → Prop} {W : World} {d o m : Nat} {s so sm : DS} (h : Tri base X W d o m s so sm) (hX : ∀ k, X k → k < W.heap.size) (hbs : base ≤ W.heap.size) :
    Calls Try.prog 13 #[.pointer (some ⟨d, 0, none⟩)] W fun e W' => e = .returned (.tuple #[]) ∧ Tri base X W' d o m { s with dead := false, cut := false, left := 0 } so sm ∧ Only (fun k => base ≤ k ∧ ¬ X k) W W' := by
  obtain ⟨FD, FO, FM, h1, h2, h3, k1, k2, k3⟩ := h
  refine (start_any FD W d s h1).mono ?_
  rintro e W' ⟨rfl, r1, r2⟩
  exact ⟨rfl, Tri.put_d h2 h3 k1 k2 k3 hX hbs (r1.mono (fun k _ e => .inl e)) r2⟩

theorem Tri.put_m {base : Nat} {X FD FO FM : Nat → Prop} {W W' : World} {d o m : Nat} {s so sm' : DS} (h1 : DiskAt FD W d s) (h2 : DiskAt FO W o so)
    (k1 : ∀ k, FD k → base ≤ k ∧ k < W.heap.size ∧ ¬ X k ∧ ¬ FO k ∧ ¬ FM k) (k2 : ∀ k, FO k → base ≤ k ∧ k < W.heap.size ∧ ¬ X k ∧ ¬ FM k) (k3 : ∀ k, FM k → base ≤ k ∧ k < W.heap.size ∧ ¬ X k)
    (hX : ∀ k, X k → k < W.heap.size) (hb : base ≤ W.heap.size) (r1 : ModelAt (fun k => FM k ∨ W.heap.size ≤ k) W' m sm') (r2 : Only FM W W') :
    Tri base X W' d o m s so sm' ∧ Only (fun k => base ≤ k ∧ ¬ X k) W W' := by
  have hs := r2.size
  refine ⟨⟨FD, FO, fun k => (FM k ∨ W.heap.size ≤ k) ∧ k < W'.heap.size, h1.only r2 (fun k _ e e' => (k1 k e).2.2.2.2 e'), h2.only r2 (fun k _ e e' => (k2 k e).2.2.2 e'), r1.mono (fun k hk e => ⟨e, hk.lt⟩), ?_, ?_, ?_⟩, r2.mono (fun k _ e => ⟨(k3 k e).1, (k3 k e).2.2⟩)⟩
  · refine fun k e => ⟨(k1 k e).1, by have := (k1 k e).2.1; omega, (k1 k e).2.2.1, (k1 k e).2.2.2.1, ?_⟩
    rintro ⟨x | x, _⟩
    · exact (k1 k e).2.2.2.2 x
    · have := (k1 k e).2.1; omega
  · refine fun k e => ⟨(k2 k e).1, by have := (k2 k e).2.1; omega, (k2 k e).2.2.1, ?_⟩
    rintro ⟨x | x, _⟩
    · exact (k2 k e).2.2.2 x
    · have := (k2 k e).2.1; omega
  · rintro k ⟨e | e, hk⟩
    · exact ⟨(k3 k e).1, hk, (k3 k e).2.2⟩
    · exact ⟨by omega, hk, fun x => by have := hX k x; omega⟩

theorem tri_mwrite {base : Nat} {X : Nat → Prop} {W : World} {d o m : Nat} {s so sm : DS} (h : Tri base X W d o m s so sm) (hX : ∀ k, X k → k < W.heap.size) (hbs : base ≤ W.heap.size) (L : Nat) (hn : sm.img.length ≤ 20480000) (hs : Sane sm L) (hL : L ≤ 900000)
    (block : Int) (ao : Option Addr) (n c : Nat) (xs : List Int) (hb : BAt W ao n xs) (hmc : n ≤ c) (hm : n ≤ 140737488355328) (haX : ∀ a, ao = some a → 0 < n → X a.block ∨ a.block < base) :
    Calls Try.prog 11 #[.pointer (some ⟨m, 0, none⟩), .int .i64 block, .slice ao n c] W fun e W' => e = .returned (.bool (wrS sm block xs).1) ∧
      Tri base X W' d o m s so (wrS sm block xs).2 ∧ Only (fun k => base ≤ k ∧ ¬ X k) W W' := by
  obtain ⟨FD, FO, FM, h1, h2, h3, k1, k2, k3⟩ := h
  refine (mwrite_any FM W m sm L h3 hn hs hL block ao n c xs hb hmc hm (fun a e h0 hF => ?_)).mono ?_
  · rcases haX a e h0 with x | x
    · exact (k3 _ hF).2.2 x
    · have := (k3 _ hF).1; omega
  · rintro e W' ⟨rfl, r1, r2⟩
    exact ⟨rfl, Tri.put_m h1 h2 k1 k2 k3 hX hbs r1 r2⟩

theorem Tri.flags {base : Nat} {X : Nat → Prop} {W W' : World} {d o m : Nat} {s so sm sm' : DS} (h : Tri base X W d o m s so sm) (hX : ∀ k, X k → k < W.heap.size) (hbs : base ≤ W.heap.size) (hi : sm'.img = sm.img) (hl : sm'.log = sm.log)
    (hs : ∀ bi lv, W.heap[m]? = some (.cells #[.slice (some ⟨bi, 0, none⟩) sm.img.length sm.img.length, lv, .int .i64 (mcut sm), .bool sm.dead] 30 (0, 0)) →
      W'.heap[m]? = some (.cells #[.slice (some ⟨bi, 0, none⟩) sm.img.length sm.img.length, lv, .int .i64 (mcut sm'), .bool sm'.dead] 30 (0, 0)))
    (ho : Only (fun k => k = m) W W') : Tri base X W' d o m s so sm' ∧ Only (fun k => base ≤ k ∧ ¬ X k) W W' := by
  obtain ⟨FD, FO, FM, h1, h2, h3, k1, k2, k3⟩ := h
  have hF : FM m := h3.1
  exact Tri.put_m h1 h2 k1 k2 k3 hX hbs ((h3.flags hi hl hs ho).mono (fun k _ e => .inl e)) (ho.mono (fun k _ e => by rw [e]; exact hF))


/-- What is read of a log that lies at ao: its entries. -/
def LogR (W : World) (ao : Option Addr) (log : List (Int × List Int)) : Prop :=
  ∀ k, k < log.length → ∃ bl gd capd, ao = some ⟨bl, 0, none⟩ ∧ bl < W.heap.size ∧ gd < W.heap.size ∧ W.cell? ⟨bl, k * 2, none⟩ = some (.int .i64 (log.getD k (0, [])).1) ∧
      W.cell? ⟨bl, k * 2 + 1, none⟩ = some (.slice (some ⟨gd, 0, none⟩) (log.getD k (0, [])).2.length capd) ∧
      BAt W (some ⟨gd, 0, none⟩) (log.getD k (0, [])).2.length (log.getD k (0, [])).2

theorem logR_of {G : Nat → Prop} {W : World} {lv : Value} {log : List (Int × List Int)} {cells : List Value} (hw : W.ownsRow 0 41 2 lv log.length cells) (hl : LogCells G W cells log) :
    ∃ ao cap, lv = .slice ao log.length cap ∧ log.length ≤ cap ∧ LogR W ao log := by
  obtain ⟨hl1, hl2⟩ := hw
  rcases hl2 with ⟨rfl, e0⟩ | ⟨g, cap, cur, rfl, hg, hh, hnc, hm, hsz, ht⟩
  · exact ⟨none, 0, by rw [e0], by omega, fun k hk => by omega⟩
  · refine ⟨_, cap, rfl, hnc, fun k hk => ?_⟩
    obtain ⟨dv, d1, d2, d3, d4, d5⟩ := hl.get k hk
    obtain ⟨gd, capd, rfl, _, hlt, _, hlen, hcell⟩ := owns_bytes d4 d3
    have tk : ∀ i v, cells[i]? = some v → cur[i]? = some v := fun i v hv => by
      have hi : i < cells.length := (List.getElem?_eq_some_iff.1 hv).1
      rw [← Array.getElem?_toList]
      rw [← ht, List.getElem?_take] at hv
      split at hv
      · exact hv
      · cases hv
    refine ⟨g, gd, capd, rfl, lt_of_block hh, hlt, ?_, ?_, hlen, fun _ => ⟨_, rfl, hlt, hcell⟩⟩
    · rw [blk_cell hh, Nat.mul_comm]
      exact tk _ _ d1
    · rw [blk_cell hh, Nat.mul_comm]
      exact tk _ _ d2

theorem LogR.below {W W' : World} {ao : Option Addr} {log : List (Int × List Int)} (h : LogR W ao log) (hB : Below W.heap.size W W') : LogR W' ao log := fun k hk => by
  obtain ⟨bl, gd, capd, e, h1, h2, h3, h4, h5⟩ := h k hk
  have hs := hB.size
  exact ⟨bl, gd, capd, e, by omega, by omega, (hB.cell (p := ⟨bl, k * 2, none⟩) h1).trans h3, (hB.cell (p := ⟨bl, k * 2 + 1, none⟩) h1).trans h4, h5.only (Only.of_new (fun _ => False) hB) (fun _ _ _ x => x)⟩

/-- The disk or the model behind some acts. -/
structure PlI (s : DS) (B k : Nat) : Prop where
  img : s.img.length = 1024 * B
  sane : Sane s (2 * k)

theorem PlI.next {s : DS} {B k : Nat} (h : PlI s B k) : PlI s B (k + 1) := ⟨h.img, h.sane.mono (by omega)⟩
theorem PlI.cut {s : DS} {B k : Nat} (h : PlI s B k) (n : Int) (hn : n ≤ 9223372036854775807) : PlI { s with cut := decide (0 ≤ n), left := max n 0 } B (k + 1) :=
  ⟨h.img, ⟨by have := h.sane.log; dsimp only; omega, h.sane.dat, by dsimp only; omega, by dsimp only; omega⟩⟩
theorem PlI.start {s : DS} {B k : Nat} (h : PlI s B k) : PlI { s with dead := false, cut := false, left := 0 } B (k + 1) :=
  ⟨h.img, ⟨by have := h.sane.log; dsimp only; omega, h.sane.dat, by dsimp only; omega, by dsimp only; omega⟩⟩
theorem PlI.write {s : DS} {B k : Nat} (h : PlI s B k) (block : Int) (xs : List Int) : PlI (wrS s block xs).2 B (k + 1) :=
  ⟨by rw [(wr_sane h.sane).2, h.img], (wr_sane h.sane).1.mono (by omega)⟩
theorem PlI.first (B : Nat) : PlI ⟨zeros (1024 * B), [], false, false, 0⟩ B 0 :=
  ⟨zeros_len _, ⟨by simp, fun k hk => by simp at hk, by simp, by simp⟩⟩

/-- Two new disks and a new model. -/
theorem tri_new {w w1 w2 w3 w4 : World} {B : Nat} {d o : Nat} (hB1 : Below w.heap.size w w1)
    (hD : DiskAt (fun k => w1.heap.size ≤ k) w2 d ⟨zeros (1024 * B), [], false, false, 0⟩) (hB2 : Below w1.heap.size w1 w2)
    (hO : DiskAt (fun k => w2.heap.size ≤ k) w3 o ⟨zeros (1024 * B), [], false, false, 0⟩) (hB3 : Below w2.heap.size w2 w3)
    (hm : w4.heap[w3.heap.size]? = some (.cells (By (zeros (1024 * B))).toArray 5 (0, 0))) (hg : w3.grownBy w4 none) :
    Tri w.heap.size (fun _ => False) (w4.alloc (.cells #[.slice (some ⟨w3.heap.size, 0, none⟩) (1024 * B) (1024 * B), .slice none 0 0, .int .i64 (-1), .bool false] 30)) d o w4.heap.size ⟨zeros (1024 * B), [], false, false, 0⟩ ⟨zeros (1024 * B), [], false, false, 0⟩ ⟨zeros (1024 * B), [], false, false, 0⟩ ∧
      Below w.heap.size w (w4.alloc (.cells #[.slice (some ⟨w3.heap.size, 0, none⟩) (1024 * B) (1024 * B), .slice none 0 0, .int .i64 (-1), .bool false] 30)) := by
  have s1 := hB1.size
  have s2 := hB2.size
  have s3 := hB3.size
  have s4 := hg.size
  have lt3 := lt_of_block hm
  have hb4 : Below w3.heap.size w3 w4 := ⟨hg.os, hg.tape, hg.output, hg.size, fun k hk => hg.block k hk (by simp)⟩
  have hb5 : Below w3.heap.size w3 (w4.alloc (.cells #[.slice (some ⟨w3.heap.size, 0, none⟩) (1024 * B) (1024 * B), .slice none 0 0, .int .i64 (-1), .bool false] 30)) := hb4.alloc (by omega) _
  refine ⟨⟨fun k => w1.heap.size ≤ k ∧ k < w2.heap.size, fun k => w2.heap.size ≤ k ∧ k < w3.heap.size, fun k => k = w3.heap.size ∨ k = w4.heap.size, ?_, ?_, ?_, ?_, ?_, ?_⟩, ?_⟩
  · exact ((hD.mono (H := fun k => w1.heap.size ≤ k ∧ k < w2.heap.size) (fun k hk e => ⟨e, hk.lt⟩)).only (Only.of_new (fun _ => False) hB3) (fun _ _ _ x => x)).only (Only.of_new (fun _ => False) hb5) (fun _ _ _ x => x)
  · exact (hO.mono (H := fun k => w2.heap.size ≤ k ∧ k < w3.heap.size) (fun k hk e => ⟨e, hk.lt⟩)).only (Only.of_new (fun _ => False) hb5) (fun _ _ _ x => x)
  · refine ⟨.inr rfl, w3.heap.size, .slice none 0 0, ?_, ⟨.inl rfl, by omega⟩, ?_, [], ?_, ?_, trivial⟩
    · rw [blk_new]
      simp [zeros_len, mcut]
    · rw [Below.heap_alloc _ _ _ lt3, hm]
    · exact World.ownsRow_nil _ _ _ _
    · intro k e
      simp [Value.ownBlock] at e
  · exact fun k e => ⟨by omega, by simp; omega, fun x => x, by omega, by omega⟩
  · exact fun k e => ⟨by omega, by simp; omega, fun x => x, by omega⟩
  · exact fun k e => ⟨by omega, by simp; omega, fun x => x⟩
  · exact hB1.trans ((hB2.mono s1).trans ((hB3.mono (by omega)).trans (hb5.mono (by omega))))

end Go.Proofs.Ytochgjajlojfeaa
