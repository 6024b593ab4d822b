/-
  LocksPlay: both tables and the reference side by side.
-/
import Derived.Test.YtoediflikoedaaaLkRs
import Derived.Test.YtoediflikoedaaaLkRk
import Derived.Test.YtoediflikoedaaaLkNil
import Derived.Test.YtoediflikoedaaaLkSafeW
namespace Go.Proofs.Ytoediflikoedaaa
open Go Go.Proofs Go.RowKit Go.Shelf
/-- Two tables and the reference, each with its own blocks; the blocks of X lie beside them. -/
structure Pf (Ft Fo Fr X : Nat → Prop) (w W : World) (t o r : Nat) (D E : Td) (R : Rf) (N M : Nat) : Prop where
  tt : TbAt Ft W t D
  ts : D.St
  tf : Fit N D
  tk : D.abs.Ok
  oo : TbAt Fo W o E
  os : E.St
  of : Fit M E
  ok : E.abs.Ok
  rr : RfAt Fr W r R
  dt : ∀ k, Ft k → ¬ Fo k ∧ ¬ Fr k ∧ ¬ X k
  do' : ∀ k, Fo k → ¬ Fr k ∧ ¬ X k
  dr : ∀ k, Fr k → ¬ X k
  bt : ∀ k, Ft k → w.heap.size ≤ k ∧ k < W.heap.size
  bo : ∀ k, Fo k → w.heap.size ≤ k ∧ k < W.heap.size
  br : ∀ k, Fr k → w.heap.size ≤ k ∧ k < W.heap.size
  bx : ∀ k, X k → w.heap.size ≤ k ∧ k < W.heap.size
  bel : Below w.heap.size w W
section
variable {Ft Fo Fr X Y : Nat → Prop} {w W W' : World} {t o r N M : Nat} {D E D' : Td} {R R' : Rf}
/-- The first table turns; Y: new blocks that lie beside. -/
theorem Pf.onT (h : Pf Ft Fo Fr X w W t o r D E R N M) (hO : Only Ft W W') {N' : Nat} (hT : TbAt (fun k => Grown Ft W k ∧ ¬ Y k) W' t D') (h1 : D'.St) (h2 : Fit N' D') (h3 : D'.abs.Ok) (hY : ∀ k, Y k → W.heap.size ≤ k ∧ k < W'.heap.size) : ∃ F', Pf F' Fo Fr (fun k => X k ∨ Y k) w W' t o r D' E R N' M := by
  have hb := h.bel.trans (hO.below h.bel.size (fun k hk => (h.bt k hk).1))
  have hs := hO.size
  have hws := h.bel.size
  refine ⟨fun k => (Ft k ∨ (W.heap.size ≤ k ∧ k < W'.heap.size)) ∧ ¬ Y k, ⟨hT.mono (fun k hk q => ⟨q.1.elim .inl (fun e => .inr ⟨e, hk⟩), q.2⟩), h1, h2, h3, h.oo.only hO (fun k hk _ q => (h.dt k q).1 hk), h.os, h.of, h.ok, h.rr.keep (fun k hk hl => hO.block k hl (fun q => (h.dt k q).2.1 hk)), ?_, ?_, ?_, ?_, ?_, ?_, ?_, hb⟩⟩
  · rintro k ⟨q | q, q2⟩
    · exact ⟨(h.dt k q).1, (h.dt k q).2.1, fun e => e.elim (h.dt k q).2.2 q2⟩
    · exact ⟨fun e => by have := (h.bo k e).2; omega, fun e => by have := (h.br k e).2; omega, fun e => e.elim (fun e => by have := (h.bx k e).2; omega) q2⟩
  · intro k q
    exact ⟨(h.do' k q).1, fun e => e.elim (h.do' k q).2 (fun e => by have := (h.bo k q).2; have := (hY k e).1; omega)⟩
  · intro k q
    exact fun e => e.elim (h.dr k q) (fun e => by have := (h.br k q).2; have := (hY k e).1; omega)
  · rintro k ⟨q | q, _⟩
    · have := h.bt k q; omega
    · omega
  · intro k q; have := h.bo k q; omega
  · intro k q; have := h.br k q; omega
  · rintro k (q | q)
    · have := h.bx k q; omega
    · have := hY k q; omega
theorem Pf.onO (h : Pf Ft Fo Fr X w W t o r D E R N M) (hO : Only Fo W W') {M' : Nat} (hT : TbAt (Grown Fo W) W' o D') (h1 : D'.St) (h2 : Fit M' D') (h3 : D'.abs.Ok) : ∃ F', Pf Ft F' Fr X w W' t o r D D' R N M' := by
  have hb := h.bel.trans (hO.below h.bel.size (fun k hk => (h.bo k hk).1))
  have hs := hO.size
  have hws := h.bel.size
  refine ⟨fun k => Fo k ∨ (W.heap.size ≤ k ∧ k < W'.heap.size), ⟨h.tt.only hO (fun k hk _ q => (h.dt k hk).1 q), h.ts, h.tf, h.tk, hT.mono (fun k hk q => q.elim .inl (fun e => .inr ⟨e, hk⟩)), h1, h2, h3, h.rr.keep (fun k hk hl => hO.block k hl (fun q => (h.do' k q).1 hk)), ?_, ?_, h.dr, ?_, ?_, ?_, ?_, hb⟩⟩
  · intro k q
    exact ⟨fun e => e.elim (h.dt k q).1 (fun e => by have := (h.bt k q).2; omega), (h.dt k q).2⟩
  · rintro k (q | q)
    · exact h.do' k q
    · exact ⟨fun e => by have := (h.br k e).2; omega, fun e => by have := (h.bx k e).2; omega⟩
  · intro k q; have := h.bt k q; omega
  · rintro k (q | q)
    · have := h.bo k q; omega
    · omega
  · intro k q; have := h.br k q; omega
  · intro k q; have := h.bx k q; omega
theorem Pf.onR (h : Pf Ft Fo Fr X w W t o r D E R N M) (hO : Only Fr W W') (hT : RfAt (Grown Fr W) W' r R') : ∃ F', Pf Ft Fo F' X w W' t o r D E R' N M := by
  have hb := h.bel.trans (hO.below h.bel.size (fun k hk => (h.br k hk).1))
  have hs := hO.size
  have hws := h.bel.size
  refine ⟨fun k => Fr k ∨ (W.heap.size ≤ k ∧ k < W'.heap.size), ⟨h.tt.only hO (fun k hk _ q => (h.dt k hk).2.1 q), h.ts, h.tf, h.tk, h.oo.only hO (fun k hk _ q => (h.do' k hk).1 q), h.os, h.of, h.ok, hT.mono (fun k hk q => q.elim .inl (fun e => .inr ⟨e, hk⟩)), ?_, ?_, ?_, ?_, ?_, ?_, ?_, hb⟩⟩
  · intro k q
    exact ⟨(h.dt k q).1, fun e => e.elim (h.dt k q).2.1 (fun e => by have := (h.bt k q).2; omega), (h.dt k q).2.2⟩
  · intro k q
    exact ⟨fun e => e.elim (h.do' k q).1 (fun e => by have := (h.bo k q).2; omega), (h.do' k q).2⟩
  · rintro k (q | q)
    · exact h.dr k q
    · exact fun e => by have := (h.bx k e).2; omega
  · intro k q; have := h.bt k q; omega
  · intro k q; have := h.bo k q; omega
  · rintro k (q | q)
    · have := h.br k q; omega
    · omega
  · intro k q; have := h.bx k q; omega
/-- Blocks of X turn, new ones come; X' is told anew. -/
theorem Pf.side {X' S : Nat → Prop} (h : Pf Ft Fo Fr X w W t o r D E R N M) (hO : Only S W W') (hS : ∀ k, S k → X k) (hX : ∀ k, X' k → X k ∨ (W.heap.size ≤ k ∧ k < W'.heap.size)) : Pf Ft Fo Fr X' w W' t o r D E R N M := by
  have hs := hO.size
  have hws := h.bel.size
  refine ⟨h.tt.only hO (fun k hk _ q => (h.dt k hk).2.2 (hS k q)), h.ts, h.tf, h.tk, h.oo.only hO (fun k hk _ q => (h.do' k hk).2 (hS k q)), h.os, h.of, h.ok, h.rr.keep (fun k hk hl => hO.block k hl (fun q => h.dr k hk (hS k q))), ?_, ?_, ?_, ?_, ?_, ?_, ?_, h.bel.trans (hO.below h.bel.size (fun k hk => (h.bx k (hS k hk)).1))⟩
  · intro k q
    exact ⟨(h.dt k q).1, (h.dt k q).2.1, fun e => (hX k e).elim (h.dt k q).2.2 (fun e => by have := (h.bt k q).2; omega)⟩
  · intro k q
    exact ⟨(h.do' k q).1, fun e => (hX k e).elim (h.do' k q).2 (fun e => by have := (h.bo k q).2; omega)⟩
  · intro k q
    exact fun e => (hX k e).elim (h.dr k q) (fun e => by have := (h.br k q).2; omega)
  · intro k q; have := h.bt k q; omega
  · intro k q; have := h.bo k q; omega
  · intro k q; have := h.br k q; omega
  · intro k q
    rcases hX k q with e | e
    · have := h.bx k e; omega
    · omega
end
/-- The same by what they hold. -/
def Pl (X : Nat → Prop) (w W : World) (t o r : Nat) (A B : Ta) (R : Rf) (N M : Nat) : Prop := ∃ Ft Fo Fr D E, Pf Ft Fo Fr X w W t o r D E R N M ∧ D.abs = A ∧ E.abs = B
/-- The blocks of X are as they were. -/
def Kx (X : Nat → Prop) (W W' : World) : Prop := ∀ k, X k → W'.heap[k]? = W.heap[k]?
section
variable {X : Nat → Prop} {w W W' : World} {t o r N M : Nat} {A B : Ta} {R : Rf}
theorem Pl.side {X' S : Nat → Prop} (h : Pl X w W t o r A B R N M) (hO : Only S W W') (hS : ∀ k, S k → X k) (hX : ∀ k, X' k → X k ∨ (W.heap.size ≤ k ∧ k < W'.heap.size)) : Pl X' w W' t o r A B R N M := by
  obtain ⟨Ft, Fo, Fr, D, E, h1, h2⟩ := h
  exact ⟨Ft, Fo, Fr, D, E, h1.side hO hS hX, h2⟩
theorem Pl.grow (h : Pl X w W t o r A B R N M) (hB : Below W.heap.size W W') : Pl X w W' t o r A B R N M := h.side (Only.of_new (fun _ => False) hB) (fun _ q => q.elim) (fun _ q => .inl q)
theorem Pl.bel (h : Pl X w W t o r A B R N M) : Below w.heap.size w W := by
  obtain ⟨Ft, Fo, Fr, D, E, h1, h2⟩ := h
  exact h1.bel
theorem Pl.bx (h : Pl X w W t o r A B R N M) : ∀ k, X k → w.heap.size ≤ k ∧ k < W.heap.size := by
  obtain ⟨Ft, Fo, Fr, D, E, h1, h2⟩ := h
  exact h1.bx
theorem Pl.okA (h : Pl X w W t o r A B R N M) : A.Ok := by
  obtain ⟨Ft, Fo, Fr, D, E, h1, rfl, rfl⟩ := h
  exact h1.tk
theorem Pl.kx (h : Pl X w W t o r A B R N M) (hB : Below W.heap.size W W') : Kx X W W' := fun k hk => hB.block k (h.bx k hk).2
theorem p_oask (h : Pl X w W t o r A B R N M) (l : Lk) (hl : l.wf) (hM : M < 1000000) : Calls Try.prog 11 #[ptV o, lkV l] W fun e W' => (∃ b, e = .returned (.bool b)) ∧ Hid (Pl X w W' t o r A (B.ask l) R N (M + 1) ∧ Kx X W W') := by
  obtain ⟨Ft, Fo, Fr, D, E, h1, rfl, rfl⟩ := h
  refine (ask_any h1.oo l hl h1.os h1.of hM).mono ?_
  rintro e W' ⟨rfl, D', HQ⟩
  obtain ⟨a1, a2, a3, a4, a5⟩ := HQ.out
  obtain ⟨F', hF⟩ := h1.onO a2 a1 a4 a5 (by rw [a3]; exact ok_ask h1.ok l hl)
  exact ⟨⟨_, rfl⟩, Hid.mk ⟨⟨_, _, _, _, _, hF, rfl, a3⟩, fun k hk => a2.block k (h1.bx k hk).2 (fun q => (h1.do' k q).2 hk)⟩⟩
theorem p_ask (h : Pl X w W t o r A B R N M) (l : Lk) (hl : l.wf) (hN : N < 1000000) : Calls Try.prog 11 #[ptV t, lkV l] W fun e W' => e = .returned (.bool (A.askB l)) ∧ Hid (Pl X w W' t o r (A.ask l) B R (N + 1) M ∧ Kx X W W') := by
  obtain ⟨Ft, Fo, Fr, D, E, h1, rfl, rfl⟩ := h
  refine (ask_any h1.tt l hl h1.ts h1.tf hN).mono ?_
  rintro e W' ⟨rfl, D', HQ⟩
  obtain ⟨a1, a2, a3, a4, a5⟩ := HQ.out
  obtain ⟨F', hF⟩ := h1.onT (Y := fun _ => False) a2 (a1.mono (fun _ _ q => ⟨q, fun e => e⟩)) a4 a5 (by rw [a3]; exact ok_ask h1.tk l hl) (fun _ q => q.elim)
  exact ⟨rfl, Hid.mk ⟨⟨_, _, _, _, _, hF.side (Only.refl (fun _ => False) _) (fun _ q => q.elim) (fun _ q => .inl (.inl q)), a3, rfl⟩, fun k hk => a2.block k (h1.bx k hk).2 (fun q => (h1.dt k q).2.2 hk)⟩⟩
theorem p_rask (h : Pl X w W t o r A B R N M) (l : Lk) (hn : R.held.length + R.row.length ≤ 1000000) : Calls Try.prog 12 #[ptV r, lkV l] W fun e W' => e = .returned (.bool (R.askB l)) ∧ Hid (Pl X w W' t o r A B (R.ask l) N M ∧ Kx X W W') := by
  obtain ⟨Ft, Fo, Fr, D, E, h1, rfl, rfl⟩ := h
  refine (rask_any h1.rr (fun k q => (h1.br k q).2) l (by omega) (by omega)).mono ?_
  rintro e W' ⟨rfl, HQ⟩
  obtain ⟨a1, a2⟩ := HQ.out
  obtain ⟨F', hF⟩ := h1.onR a2 a1
  exact ⟨rfl, Hid.mk ⟨⟨_, _, _, _, _, hF, rfl, rfl⟩, fun k hk => a2.block k (h1.bx k hk).2 (fun q => h1.dr k q hk)⟩⟩
theorem p_rel (h : Pl X w W t o r A B R N M) (p x : Int) (hp : (Lit.int .i64 p).wf = true) (hx : (Lit.int .i64 x).wf = true) (hN : N ≤ 400000) : Calls Try.prog 14 #[ptV t, .int .i64 p, .int .i64 x] W fun e W' => ∃ ao c, e = .returned (.slice ao (A.relL p x).length c) ∧ Hid (SlOk W' (.slice ao (A.relL p x).length c) (A.relL p x) ∧ Pl (fun k => X k ∨ (Value.slice ao (A.relL p x).length c).ownBlock = some k) w W' t o r (A.rel p x) B R N M ∧ Kx X W W') := by
  obtain ⟨Ft, Fo, Fr, D, E, h1, rfl, rfl⟩ := h
  refine (rel_any h1.tt p x hp hx h1.ts h1.tf hN (abs_rowok h1.tk x)).mono ?_
  rintro e W' ⟨u, rfl, HQ⟩
  obtain ⟨b1, b2, b3, D', b4, b5, b6, b7, b8, b9⟩ := HQ.out
  obtain ⟨ao, c, rfl⟩ := b1.slice
  obtain ⟨F', hF⟩ := h1.onT (Y := fun k => (Value.slice ao (D.abs.relL p x).length c).ownBlock = some k) b3 b4 b7 b6 (by rw [b5]; exact ok_rel h1.tk p x) (fun k q => ⟨b2 k q, b1.lt q⟩)
  exact ⟨ao, c, rfl, Hid.mk ⟨b1, ⟨_, _, _, _, _, hF, b5, rfl⟩, fun k hk => b3.block k (h1.bx k hk).2 (fun q => (h1.dt k q).2.2 hk)⟩⟩
theorem p_rrel (h : Pl X w W t o r A B R N M) (p x : Int) (hn : R.held.length + R.row.length ≤ 400000) : Calls Try.prog 15 #[ptV r, .int .i64 p, .int .i64 x] W fun e W' => ∃ ao c, e = .returned (.slice ao (R.relL p x).length c) ∧ Hid (SlOk W' (.slice ao (R.relL p x).length c) (R.relL p x) ∧ Pl X w W' t o r A B (R.rel p x) N M ∧ Kx X W W') := by
  obtain ⟨Ft, Fo, Fr, D, E, h1, rfl, rfl⟩ := h
  refine (rrel_any h1.rr (fun k q => (h1.br k q).2) p x (by omega) (by omega)).mono ?_
  rintro e W' ⟨ao, c, rfl, HQ⟩
  obtain ⟨a0, a1, a2⟩ := HQ.out
  obtain ⟨F', hF⟩ := h1.onR a2 a1
  exact ⟨ao, c, rfl, Hid.mk ⟨a0, ⟨_, _, _, _, _, hF, rfl, rfl⟩, fun k hk => a2.block k (h1.bx k hk).2 (fun q => h1.dr k q hk)⟩⟩
theorem p_waits (h : Pl X w W t o r A B R N M) (p : Int) (hp : (Lit.int .i64 p).wf = true) : Calls Try.prog 16 #[ptV t, .int .i64 p] W fun e W' => e = .returned (.tuple #[lkV ((A.waits p).getD Lk.zero), .bool (A.waits p).isSome]) ∧ Below W.heap.size W W' := by
  obtain ⟨Ft, Fo, Fr, D, E, h1, rfl, rfl⟩ := h
  exact waits_any h1.tt p hp
theorem p_rwaits (h : Pl X w W t o r A B R N M) (p : Int) : Calls Try.prog 17 #[ptV r, .int .i64 p] W fun e W' => e = .returned (.tuple #[lkV ((R.waits p).getD Lk.zero), .bool (R.waits p).isSome]) ∧ Below W.heap.size W W' := by
  obtain ⟨Ft, Fo, Fr, D, E, h1, rfl, rfl⟩ := h
  exact rwaits_any h1.rr p
theorem p_holds (h : Pl X w W t o r A B R N M) (p x : Int) (hp : (Lit.int .i64 p).wf = true) (hx : (Lit.int .i64 x).wf = true) : Calls Try.prog 19 #[ptV t, .int .i64 p, .int .i64 x] W fun e W' => e = .returned (.bool (A.holds p x)) ∧ Below W.heap.size W W' := by
  obtain ⟨Ft, Fo, Fr, D, E, h1, rfl, rfl⟩ := h
  exact holds_any h1.tt p x hp hx
theorem p_rholds (h : Pl X w W t o r A B R N M) (p x : Int) : Calls Try.prog 20 #[ptV r, .int .i64 p, .int .i64 x] W fun e W' => e = .returned (.bool (hasB R.held p x)) ∧ Below W.heap.size W W' := by
  obtain ⟨Ft, Fo, Fr, D, E, h1, rfl, rfl⟩ := h
  refine (rholds_any h1.rr p x).mono ?_
  rintro e W' ⟨rfl, rfl⟩
  exact ⟨rfl, Below.refl _ _⟩
theorem p_holders (h : Pl X w W t o r A B R N M) (x : Int) (hx : (Lit.int .i64 x).wf = true) (hN : N ≤ 1000000) : Calls Try.prog 18 #[ptV t, .int .i64 x] W fun e W' => ∃ v, e = .returned v ∧ Hid (W'.ownsRow W.heap.size 3 1 v (holdL (A.held x)).length (Iy (holdL (A.held x))) ∧ Below W.heap.size W W') := by
  obtain ⟨Ft, Fo, Fr, D, E, h1, rfl, rfl⟩ := h
  exact holders_any h1.tt x hx h1.tf hN
theorem p_rholders (h : Pl X w W t o r A B R N M) (x : Int) (hn : R.held.length + R.row.length ≤ 1000000) : Calls Try.prog 22 #[ptV r, .int .i64 x] W fun e W' => ∃ v, e = .returned v ∧ Hid (W'.ownsRow W.heap.size 3 1 v (R.holders x).length (Iy (R.holders x)) ∧ Below W.heap.size W W') := by
  obtain ⟨Ft, Fo, Fr, D, E, h1, rfl, rfl⟩ := h
  exact rholders_any h1.rr x (by omega)
theorem p_stuck (h : Pl X w W t o r A B R N M) (hN : N ≤ 300) : Calls Try.prog 23 #[ptV t] W fun e W' => ∃ v, e = .returned v ∧ Hid (StkTo W A.waited v W') := by
  obtain ⟨Ft, Fo, Fr, D, E, h1, rfl, rfl⟩ := h
  rcases h1.ts with rfl | q
  · exact stuck_nil h1.tt hN
  · exact stuck_any h1.tt q h1.tk h1.tf hN
theorem p_rstuck {A' : Ta} (h : Pl X w W t o r A B R N M) (he : Eqv R A') (hA : A'.Ok) (hn : R.held.length + R.row.length ≤ 400000) : Calls Try.prog 24 #[ptV r] W fun e W' => ∃ v, e = .returned v ∧ Hid (∃ R' A2, W'.ownsRow W.heap.size 3 1 v (insL R'.row).length (Iy (insL R'.row)) ∧ Eqv R' A2 ∧ A2.Ok ∧ Run A' A2 ∧ A2.Done ∧ Below W.heap.size W W' ∧ (insL R'.row).length ≤ R.held.length + R.row.length) := by
  obtain ⟨Ft, Fo, Fr, D, E, h1, rfl, rfl⟩ := h
  exact rstuck_any h1.rr he hA (Nat.le_refl _) hn
end
end Go.Proofs.Ytoediflikoedaaa
