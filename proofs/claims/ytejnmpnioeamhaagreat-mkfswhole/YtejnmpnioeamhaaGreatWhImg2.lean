/-
  image: the cells of a repair, and steps of the walk.
-/
import Derived.Test.YtejnmpnioeamhaaGreatWhImg
namespace Go.Proofs.YtejnmpnioeamhaaGreat
open Go Go.Proofs Go.RowKit Go.Shelf
namespace Mk
open Sup (superL headL maskL nI nD bD)
open Din (inoL fineL inoV NAt)
open Ent (blockL okB EAt Ey entV noS noE)
/-- What lies in a repair's cells. -/
structure DrC (p : Rp) (n nb nt : Nat) (G I D : Int) (t gl gd : Nat) (v : Value) (W : World) : Prop where
  r0 : W.cell? ⟨p.r, 0, none⟩ = some (.pointer (some ⟨p.d, 0, none⟩))
  r1 : W.cell? ⟨p.r, 1, none⟩ = some (.slice (some ⟨p.cb, 0, none⟩) nb nb)
  r2 : W.cell? ⟨p.r, 2, none⟩ = some (.slice (some ⟨p.tb, 0, none⟩) nt nt)
  tb : ∀ k, k < nt → W.cell? ⟨p.tb, k, none⟩ = some (if k = 1 then .pointer (some ⟨t, 0, none⟩) else .pointer none)
  cb : ∀ k, k < nb → W.cell? ⟨p.cb, k, none⟩ = some (.bool (decide (k = 0)))
  t13 : ∃ cd, W.cell? ⟨t, 13, none⟩ = some (.slice (some ⟨gd, 0, none⟩) 1 cd)
  t15 : ∃ c, W.cell? ⟨t, 15, none⟩ = some (.slice (some ⟨gl, 0, none⟩) 1 c)
  t16 : W.cell? ⟨t, 16, none⟩ = some (.slice none 0 0)
  l0 : W.cell? ⟨gl, 0, none⟩ = some (.int .i64 (2 + I))
  d0 : W.cell? ⟨gd, 0, none⟩ = some v
  ino : (Instr.loadAt 55 (.pointer (some ⟨t, 0, none⟩))).run Tryz.prog W = .ok (inoV (rootL I)) W
theorem DrAt.dc {p : Rp} {n nb nt : Nat} {G I D : Int} {xs : List Int} {t gl c go co gd cd : Nat} {v : Value} {W : World} (h : DrAt p n nb nt G I D xs t gl c go co gd cd v W) (hnt : 2 ≤ nt) : DrC p n nb nt G I D t gl gd v W := by
  obtain ⟨a0, a2, a3, a4, b1, e4, e5, e6, l0, o0⟩ := tn_cells h.tn hnt
  obtain ⟨r0, r1, r2, r3, r4⟩ := h.tn.rp.cells
  obtain ⟨h1, h2, h3, h4⟩ := h.tn.tk.rest rfl
  refine ⟨r0, r1, r2, fun k hk => ?_, fun k hk => ?_, ⟨_, h1⟩, ⟨_, h3⟩, h4, l0, h.dir.1, load_tak h.tn.tk rfl⟩
  · rw [blk_cell h.tn.rp.tab]
    by_cases e : k = 1
    · subst e
      simp [nils, show 1 < nt by omega]
    · rw [if_neg e]
      simp [nils, Ne.symm e, hk]
  · rw [blk_cell h.tn.rp.cla]
    by_cases e : k = 0
    · subst e
      simp [fals, show 0 < nb by omega]
    · simp [fals, Ne.symm e, hk, e]
def fI (ino j : Nat) : List Int := if j = 0 ∧ 1 < ino then withI (zeros 8) 0 true else zeros 8
def fD (m k j : Nat) : List Int := if j = 0 ∧ 0 < k then withI (zeros m) 0 true else zeros m
theorem wpL_put {ops : Array Oper} {rest : List Oper} {o : Oper} {a : Act} {Q : Exit → Act → World → Prop} {w : World} (p x : Operand) (ho : o.op = .store 26 p x) (hw : Region.wanted o (yielded ops a.tmps) = true) (v u : Value) (w' : World) (hp : a.eval p = v) (hx : a.eval x = u) (hr : (Instr.storeAt 26 v u).run Tryz.prog w = .ok () w') (h : wpList Tryz.prog ops Q rest (a.put o.dst undef) w') : wpList Tryz.prog ops Q (o :: rest) a w :=
  Din.wpList_stored hw _ (exec_store ho hp hx hr) h
theorem wpL_loadi {ops : Array Oper} {rest : List Oper} {o : Oper} {a : Act} {Q : Exit → Act → World → Prop} {w : World} (x : Operand) (ho : o.op = .load 55 x) (hw : Region.wanted o (yielded ops a.tmps) = true) (v u : Value) (hx : a.eval x = v) (hr : (Instr.loadAt 55 v).run Tryz.prog w = .ok u w) (h : wpList Tryz.prog ops Q rest (a.put o.dst u) w) : wpList Tryz.prog ops Q (o :: rest) a w :=
  Din.wpList_known hw _ _ (by
    unfold execOp
    rw [ho]
    simp only [Sem.run_bind, hx, hr, Result.andThen_ok]
    rfl) h
theorem with_step (N : Nat) : ∀ i, i < N → (i = 0 ∧ fI 2 i = withI (fI 1 0) 0 true) ∨ (i ≠ 0 ∧ i < N ∧ fI 2 i = fI 1 i) := by
  intro i hi
  by_cases e : i = 0
  · exact .inl ⟨e, by simp [fI, e]⟩
  · exact .inr ⟨e, hi, by simp [fI, e]⟩
theorem fI_step (ino : Nat) (h : 1 < ino) : fI (ino + 1) = fI ino := by
  funext j
  unfold fI
  simp [h, show 1 < ino + 1 by omega]
/-- inodes[0] = With(inodes[0], 0, true). -/
theorem IgAt.with1 {w : World} {b3 g4 gi gt B n cap N Kd : Nat} {G I D : Int} {xs : List Int} {fd : Nat → List Int} {W : World} (h : IgAt w b3 g4 gi gt B n cap N N Kd G I D xs (fI 1) fd W) (a0 : Addr) (c6 : Nat) (g2 : BAt W (some a0) 8 (fI 1 0)) (hN : 0 < N) (b4 : Nat) (l : List Int) (hn : NAt b4 l W) (hb4 : B ≤ b4) :
    Calls Tryz.prog 54 #[.slice (some a0) 8 c6, .int .i64 0, .bool true] W fun e w' => ∃ a7 c7 W8, e = .returned (.slice (some a7) 8 c7) ∧ (Instr.storeAt 26 (.pointer (some ⟨gi, 0, none⟩)) (.slice (some a7) 8 c7)).run Tryz.prog w' = .ok () W8 ∧ IgAt w b3 g4 gi gt B n cap N N Kd G I D xs (fI 2) fd W8 ∧ NAt b4 l W8 := by
  refine (Sup.refwith_any W (some a0) 8 c6 0 (by unfold I64; omega) true _ g2 (fun e => by cases e) (by omega)).mono ?_
  rintro e w7 ⟨v7, rfl, ho7, hB7⟩
  obtain ⟨ao7, c7, rfl, hb7, hge7, hne7⟩ := owns_BAt ho7
  cases ao7 with
  | none => exact absurd rfl (hne7 (by omega))
  | some a7 =>
    have ho := h.ord
    obtain ⟨rs8, hj8⟩ := (h.new hB7).puti 0 hN a7 8 c7 _ hb7 (Nat.le_trans ho.2.2.2.2.2 (hge7 a7 rfl).1) N (fI 2) (with_step N)
    exact ⟨a7, c7, _, rfl, rs8, hj8, (hn.below hB7 hn.lt).only (set_only w7 gi 0 (.slice (some a7) 8 c7)) (by omega)⟩
theorem dstep (N m : Nat) : ∀ i, i < N → (i = 0 ∧ fD m 1 i = withI (fD m 0 0) 0 true) ∨ (i ≠ 0 ∧ i < N ∧ fD m 1 i = fD m 0 i) := by
  intro i hi
  by_cases e : i = 0
  · exact .inl ⟨e, by simp [fD, e]⟩
  · exact .inr ⟨e, hi, by simp [fD, e]⟩
theorem fD_step (m k : Nat) (h : 0 < k) : fD m (k + 1) = fD m k := by
  funext j
  unfold fD
  simp [h]
/-- data[0] = With(data[0], 0, true). -/
theorem IgAt.with2 {w : World} {b3 g4 gi gt B n cap N Ki m : Nat} {G I D : Int} {xs : List Int} {fi : Nat → List Int} {W : World} (h : IgAt w b3 g4 gi gt B n cap N Ki N G I D xs fi (fD m 0) W) (hm : 0 < m ∧ m ≤ 126) (a0 : Addr) (c6 : Nat) (g2 : BAt W (some a0) m (fD m 0 0)) (hN : 0 < N) :
    Calls Tryz.prog 54 #[.slice (some a0) m c6, .int .i64 0, .bool true] W fun e w' => ∃ a7 c7 W8, e = .returned (.slice (some a7) m c7) ∧ (Instr.storeAt 26 (.pointer (some ⟨gt, 0, none⟩)) (.slice (some a7) m c7)).run Tryz.prog w' = .ok () W8 ∧ IgAt w b3 g4 gi gt B n cap N Ki N G I D xs fi (fD m 1) W8 := by
  refine (Sup.refwith_any W (some a0) m c6 0 (by unfold I64; omega) true _ g2 (fun e => by cases e) (by omega)).mono ?_
  rintro e w7 ⟨v7, rfl, ho7, hB7⟩
  obtain ⟨ao7, c7, rfl, hb7, hge7, hne7⟩ := owns_BAt ho7
  cases ao7 with
  | none => exact absurd rfl (hne7 (by omega))
  | some a7 =>
    have ho := h.ord
    obtain ⟨rs8, hj8⟩ := (h.new hB7).putd 0 hN a7 m c7 _ hb7 (Nat.le_trans ho.2.2.2.2.2 (hge7 a7 rfl).1) N (fD m 1) (dstep N m)
    exact ⟨a7, c7, _, rfl, rs8, hj8⟩
/-- PackEntries of the root's entries, and its copy. -/
theorem IgAt.ents {w : World} {b3 g4 gi gt B n cap N Ki Kd : Nat} {G I D : Int} {xs : List Int} {fi fd : Nat → List Int} {W : World} (h : IgAt w b3 g4 gi gt B n cap N Ki Kd G I D xs fi fd W) (hx : ImgIs G I D xs) (hn : ((2 + I).toNat + 1) * 1024 ≤ n) (ae : Addr) (cm : Nat) (he : EAt W (some ae) 32 freeL) :
    Calls Tryz.prog 57 #[.slice (some ae) 32 cm] W fun e w' => ∃ ap cp W8, e = .returned (.tuple #[.slice ap 1024 cp, .bool true]) ∧ (Builtin.copy_ #[26, 26] 3 #[.slice (some ⟨g4, (2 + I).toNat * 1024, none⟩) (n - (2 + I).toNat * 1024) (cap - (2 + I).toNat * 1024), .slice ap 1024 cp]).run Tryz.prog w' = .ok (.int .i64 (1024 : Nat)) W8 ∧ IgAt w b3 g4 gi gt B n cap N Ki Kd G I D xs fi fd W8 ∧ Below w.heap.size w w' := by
  refine (Ent.rpblock_yes W (some ae) 32 cm freeL he free_short free_ok).mono ?_
  rintro e w' ⟨ap, cp, rfl, hb, hB⟩
  obtain ⟨W8, r8, h8⟩ := (h.new hB).copy ((2 + I).toNat * 1024) 1024 cp _ ap hb (by omega) (by omega) (by rw [hx.dots, free_block])
  exact ⟨ap, cp, W8, rfl, r8, h8, (h.new hB).below⟩
end Mk
end Go.Proofs.YtejnmpnioeamhaaGreat
