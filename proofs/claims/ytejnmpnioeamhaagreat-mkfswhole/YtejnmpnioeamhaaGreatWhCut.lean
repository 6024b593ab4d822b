/-
  The root as it is taken in: cut.
-/
import Derived.Test.YtejnmpnioeamhaaGreatWhClean
namespace Go.Proofs.YtejnmpnioeamhaaGreat
open Go Go.Proofs Go.RowKit Go.Shelf
namespace Mk
open Sup (superL headL maskL nI nD bD)
open Din (inoL fineL inoV NAt)
open Ent (blockL okB EAt Ey entV noS noE)
theorem tak_root {t : Nat} {I : Int} {dir lead : Value} {up : Int} {W : World} (h : TkAt t (rootL I) dir up lead W) : W.cell? ⟨t, 0, none⟩ = some (.int .i64 2) ∧ W.cell? ⟨t, 1, none⟩ = some (.int .i64 2) ∧ W.cell? ⟨t, 2, none⟩ = some (.int .i64 1024) ∧ W.cell? ⟨t, 3, none⟩ = some (.int .i64 (2 + I)) ∧ W.cell? ⟨t, 13, none⟩ = some dir ∧ W.cell? ⟨t, 14, none⟩ = some (.int .i64 up) ∧ W.cell? ⟨t, 15, none⟩ = some lead ∧ W.cell? ⟨t, 16, none⟩ = some (.slice none 0 0) ∧ (∀ i, W.frozen? ⟨t, i, none⟩ = false) ∧ ∀ k : Nat, 0 < k → k < 8 → W.cell? ⟨t, 3 + k, none⟩ = some (.int .i64 0) := by
  obtain ⟨h1, h2, h3, h4⟩ := h.rest rfl
  refine ⟨h.ints 0 (by simp [rootL]), h.ints 1 (by simp [rootL]), h.ints 2 (by simp [rootL]), h.ints 3 (by simp [rootL]), h1, h2, h3, h4, h.free, fun k h0 h8 => ?_⟩
  rw [h.ints (3 + k) (by simp [rootL]; omega), root_zero I k h0 h8]
/-- An int that is stored in it stood there. -/
theorem tak_same {t : Nat} {I : Int} {dir lead : Value} {up : Int} {W : World} (h : TkAt t (rootL I) dir up lead W) (i : Nat) (hi : i < 13) (y : Int) (hy : (rootL I).getD i 0 = y) : TkAt t (rootL I) dir up lead (W.setCell ⟨t, i, none⟩ (.int .i64 y)) := by
  have h1 := set_cells (i := i) h (.int .i64 y)
  rwa [takC_set _ rfl _ _ _ i hi, root_set I i y hy] at h1
theorem tak_lead {t : Nat} {I : Int} {dir lead : Value} {up : Int} {W : World} (h : TkAt t (rootL I) dir up lead W) (v : Value) : TkAt t (rootL I) dir up v (W.setCell ⟨t, 15, none⟩ v) := by
  have h1 := set_cells (i := 15) h v
  rwa [takC_lead _ rfl] at h1
theorem tak_dir {t : Nat} {I : Int} {dir lead : Value} {up : Int} {W : World} (h : TkAt t (rootL I) dir up lead W) (v : Value) : TkAt t (rootL I) v up lead (W.setCell ⟨t, 13, none⟩ v) := by
  have h1 := set_cells (i := 13) h v
  rwa [takC_dir _ rfl] at h1
theorem tak_up {t : Nat} {I : Int} {dir lead : Value} {up : Int} {W : World} (h : TkAt t (rootL I) dir up lead W) (y : Int) : TkAt t (rootL I) dir y lead (W.setCell ⟨t, 14, none⟩ (.int .i64 y)) := by
  have h1 := set_cells (i := 14) h (.int .i64 y)
  rwa [takC_up _ rfl] at h1
theorem tak_meta {t : Nat} {I : Int} {dir lead : Value} {up : Int} {W : World} (h : TkAt t (rootL I) dir up lead W) : TkAt t (rootL I) dir up lead (W.setCell ⟨t, 16, none⟩ (.slice none 0 0)) := by
  have h1 := set_cells (i := 16) h (.slice none 0 0)
  rwa [takC_meta _ rfl] at h1
set_option maxRecDepth 100000 in
theorem give_none (w : World) (p : Rp) (n nb nt : Nat) (G I D : Int) (xs : List Int) (ord : Value) (cl tl : List Value) (h : RpAt p n nb nt G I D xs ord cl tl w) :
    Calls Tryz.prog 103 #[.pointer (some ⟨p.r, 0, none⟩), .int .i64 0] w fun e w' => e = .returned (.tuple #[]) ∧ Below w.heap.size w w' := by
  obtain ⟨r0, r1, r2, r3, r4⟩ := h.cells
  obtain ⟨k0, k1, k2, k3⟩ := h.dk.d4
  have HDO : Hid (∀ W : World, Calls Tryz.prog 46 #[geo G I D, .int .i64 0] W fun e w' => e = .returned (.tuple #[.int .i64 0, .bool false]) ∧ Below W.heap.size W w') := Hid.mk (fun W => by
    have h := rdataof_any W G I D 0
    rwa [(do_none G I D).1, (do_none G I D).2] at h)
  clear h
  generalize p.r = pr at *
  generalize p.d = pd at *
  go_enter Tryz.func103, Tryz.ntmps103
  go_wp2_with (go_at_call 46; refine (HDO.out _).mono ?_; rintro e w1 ⟨rfl, hB⟩; have HB := Hid.mk hB; clear hB)
  go_end0
  exact ⟨rfl, HB.out⟩
set_option maxRecDepth 100000 in
theorem pointer_first (w : World) (t : Nat) (I : Int) (dir lead : Value) (up : Int) (h : TkAt t (rootL I) dir up lead w) :
    Calls Tryz.prog 102 #[.pointer (some ⟨t, 0, none⟩), .int .i64 0] w fun e w' => e = .returned (.int .i64 (2 + I)) ∧ w' = w := by
  obtain ⟨c0, c1, c2, c3, -⟩ := tak_root h
  clear h
  go_enter Tryz.func102, Tryz.ntmps102
  go_wp2_with (go_at_call 94; refine (place_zero _).mono ?_; rintro e w1 ⟨rfl, hw⟩; subst w1)
  go_ret
  exact ⟨rfl, rfl⟩
/-- append(nil, [x]), the row of x made just now. -/
theorem append_new (Y : World) (q : Int) : ∃ go co W6, (Builtin.append_ #[31, 31] 31 #[.slice none 0 0, .slice (some ⟨Y.heap.size, 0, none⟩) 1 1]).run Tryz.prog (Y.alloc (.cells #[.int .i64 q] 3)) = .ok (.slice (some ⟨go, 0, none⟩) 1 co) W6 ∧ LAt W6 (some ⟨go, 0, none⟩) 1 [q] ∧ Y.heap.size ≤ go ∧ Below Y.heap.size Y W6 := by
  have hla : LAt (Y.alloc (.cells #[.int .i64 q] 3)) (some ⟨Y.heap.size, 0, none⟩) 1 [q] := QAt.lat (blk_new Y _) rfl
  obtain ⟨v', W6, hr, hown, hgr⟩ := Din.appendi_run (Y.alloc (.cells #[.int .i64 q] 3)) Y.heap.size (.slice none 0 0) 0 [] (World.ownsRow_nil _ _ _ _) (by simp) ⟨Y.heap.size, 0, none⟩ 1 1 [q] hla (by omega)
  obtain ⟨go, co, rfl, hout, hge⟩ := Din.owns_LAt hown (by omega)
  exact ⟨go, co, W6, hr, hout, hge, ((Below.refl _ Y).alloc (Nat.le_refl _) _).trans hgr⟩
/-- What cut holds in memory. -/
structure CuAt (w : World) (p : Rp) (n nb nt : Nat) (G I D : Int) (xs : List Int) (ord : Value) (cl tl : List Value) (t : Nat) (up : Int) (lead : Value) (W : World) : Prop where
  rp : RpAt p n nb nt G I D xs ord cl tl W
  tk : TkAt t (rootL I) (.slice none 0 0) up lead W
  only : Only (fun k => k = t) w W
  ne : p.d ≠ t ∧ p.g ≠ t ∧ p.r ≠ t ∧ p.cb ≠ t ∧ p.tb ≠ t
theorem CuAt.new {w : World} {p : Rp} {n nb nt : Nat} {G I D : Int} {xs : List Int} {ord : Value} {cl tl : List Value} {t : Nat} {up : Int} {lead : Value} {W W' : World} (h : CuAt w p n nb nt G I D xs ord cl tl t up lead W) (hB : Below W.heap.size W W') : CuAt w p n nb nt G I D xs ord cl tl t up lead W' :=
  ⟨h.rp.new hB, h.tk.new hB, h.only.trans (Only.of_new (fun _ => False) hB) (fun _ e => e.elim), h.ne⟩
theorem CuAt.put {w : World} {p : Rp} {n nb nt : Nat} {G I D : Int} {xs : List Int} {ord : Value} {cl tl : List Value} {t : Nat} {up : Int} {lead lead' : Value} {W : World} (h : CuAt w p n nb nt G I D xs ord cl tl t up lead W) (i : Nat) (v : Value) (ht : TkAt t (rootL I) (.slice none 0 0) up lead' (W.setCell ⟨t, i, none⟩ v)) : CuAt w p n nb nt G I D xs ord cl tl t up lead' (W.setCell ⟨t, i, none⟩ v) :=
  ⟨h.rp.only (set_only W t i v) h.ne.1 h.ne.2.1 h.ne.2.2.1 h.ne.2.2.2.1 h.ne.2.2.2.2, ht, h.only.setCell (p := ⟨t, i, none⟩) (.inl rfl) _, h.ne⟩
set_option maxRecDepth 100000 in
set_option maxHeartbeats 8000000 in
theorem cut_root (w : World) (p : Rp) (n nb nt : Nat) (G I D : Int) (hI : 1 ≤ I ∧ I ≤ 4) (xs : List Int) (ord : Value) (cl tl : List Value) (t : Nat) (up : Int) (h : CuAt w p n nb nt G I D xs ord cl tl t up (.slice none 0 0) w) :
    Calls Tryz.prog 97 #[.pointer (some ⟨p.r, 0, none⟩), .pointer (some ⟨t, 0, none⟩)] w fun e w' => ∃ gl c, e = .returned (.tuple #[]) ∧ CuAt w p n nb nt G I D xs ord cl tl t up (.slice (some ⟨gl, 0, none⟩) 1 c) w' ∧ LAt w' (some ⟨gl, 0, none⟩) 1 [2 + I] ∧ w.heap.size ≤ gl := by
  have HC0 := Hid.mk h
  obtain ⟨hI1, hI4⟩ := hI
  clear h
  go_enter Tryz.func97, Tryz.ntmps97
  go_wp2
  go_loopw [4] (fun i wr => (i = .int .i64 0 ∧ CuAt w p n nb nt G I D xs ord cl tl t up (.slice none 0 0) wr) ∨ (i = .int .i64 1 ∧ ∃ gl c, CuAt w p n nb nt G I D xs ord cl tl t up (.slice (some ⟨gl, 0, none⟩) 1 c) wr ∧ LAt wr (some ⟨gl, 0, none⟩) 1 [2 + I] ∧ w.heap.size ≤ gl ∧ gl ≠ t)) (fun i _ => 1 - (intOf i).toNat)
  case atStart => exact .inl ⟨rfl, HC0.out⟩
  case round =>
    clear HC0
    rcases hrel with ⟨rfl, hc⟩ | ⟨rfl, gl, c, hc, hla, hge, hne⟩
    · have HC1 := Hid.mk hc
      clear hc
      obtain ⟨c0, c1, c2, c3, c4, c5, c6, c7, cf, ck⟩ := tak_root HC1.out.tk
      obtain ⟨go, co, W6, r6, l6, g6, b6⟩ := append_new wr (2 + I)
      have hc6 := HC1.out.new b6
      have f6 := hc6.tk.free 15
      have d6 := (tak_root hc6.tk).2.2.2.2.2.2.1
      have HL6 : Hid (LAt (W6.setCell ⟨t, 15, none⟩ (.slice (some ⟨go, 0, none⟩) 1 co)) (some ⟨go, 0, none⟩) 1 [2 + I] ∧ w.heap.size ≤ go ∧ go ≠ t) := Hid.mk (by
        have h1 := HC1.out.tk.lt
        have h2 := HC1.out.only.size
        exact ⟨l6.only (set_only W6 t 15 _) (fun a e _ => by cases e; show go ≠ t; omega), by omega, by omega⟩)
      have HC7 := Hid.mk (hc6.put 15 _ (tak_lead hc6.tk (.slice (some ⟨go, 0, none⟩) 1 co)))
      have HR6 := Hid.mk r6
      have hq0 : ¬ 2 + I = 0 := by omega
      clear ck cf l6 g6 b6 hc6 r6
      go_wp2_with (first
        | (go_at_call 102; refine (pointer_first _ t I _ _ _ HC1.out.tk).mono ?_; rintro e w2 ⟨rfl, hw⟩; subst w2)
        | (at_builtin; refine wpList_append_known rfl (.tmp 30) (.tmp 32) 31 rfl _ _ _ _ rfl rfl HR6.out ?_))
      go_roundw
      case rel => exact .inr ⟨by go_num, go, co, HC7.out, HL6.out.1, HL6.out.2.1, HL6.out.2.2⟩
      case measure => simp [intOf]
    · have HC1 := Hid.mk hc
      have HL1 := Hid.mk hla
      have HGE := Hid.mk hge
      have HNE := Hid.mk hne
      clear hc hla hge hne
      obtain ⟨c0, c1, c2, c3, c4, c5, c6, c7, cf, ck⟩ := tak_root HC1.out.tk
      have cf2 := cf 2
      clear ck cf
      go_wp2
      have HC2 := Hid.mk (HC1.out.put 2 (.int .i64 1024) (tak_same HC1.out.tk 2 (by omega) 1024 rfl))
      have HL2 := Hid.mk (HL1.out.only (set_only wr t 2 (.int .i64 1024)) (fun a e _ => by cases e; exact HNE.out))
      clear c0 c1 c2 c3 c4 c5 c6 c7 cf2 HC1 HL1
      go_loopw [6] (fun i wr => ∃ k : Nat, k ≤ 8 ∧ i = .int .i64 k ∧ CuAt w p n nb nt G I D xs ord cl tl t up (.slice (some ⟨gl, 0, none⟩) 1 c) wr ∧ LAt wr (some ⟨gl, 0, none⟩) 1 [2 + I]) (fun i _ => 8 - (intOf i).toNat)
      case atStart => exact ⟨0, by omega, rfl, HC2.out, HL2.out⟩
      case round =>
        clear HC2 HL2
        obtain ⟨k, hk, rfl, hc, hla⟩ := hrel
        have HC3 := Hid.mk hc
        have HL3 := Hid.mk hla
        clear hc hla
        by_cases hk0 : k = 0
        · subst hk0
          go_wp2
          go_roundw
          case rel => exact ⟨1, by omega, by go_num, HC3.out, HL3.out⟩
          case measure => simp [intOf]
        · by_cases hlt : k < 8
          · have ck1 := (tak_root HC3.out.tk).2.2.2.2.2.2.2.2.2 k (by omega) hlt
            have HZ := Hid.mk (root_zero I k (by omega) hlt)
            go_wp2_with (go_at_call 103; refine (give_none _ p n nb nt G I D xs ord cl tl HC3.out.rp).mono ?_; rintro e w4 ⟨rfl, hB4⟩; have hc4 := HC3.out.new hB4; have ck4 := (tak_root hc4.tk).2.2.2.2.2.2.2.2.2 k (by omega) hlt; have cf4 := hc4.tk.free (3 + k); have HC5 := Hid.mk (hc4.put (3 + k) (.int .i64 0) (tak_same hc4.tk (3 + k) (by omega) 0 HZ.out)); have HL5 := Hid.mk ((HL3.out.below hB4 (HL3.out.lt (by omega))).only (set_only w4 t (3 + k) (.int .i64 0)) (fun a e _ => by cases e; exact HNE.out)); clear hB4 hc4)
            go_roundw
            case rel => exact ⟨k + 1, by omega, by go_num, HC5.out, HL5.out⟩
            case measure => simp [intOf]; omega
          · obtain rfl : k = 8 := by omega
            go_wp2
            go_loopw [7, 8] (fun v i wr2 => v = .slice none 0 0 ∧ i = .int .i64 0 ∧ wr2 = wr) (fun _ _ _ => 0)
            case atStart => exact ⟨rfl, rfl, rfl⟩
            case round =>
              obtain ⟨rfl, rfl, rfl⟩ := hrel
              obtain ⟨c0, c1, c2, c3, c4, c5, c6, c7, cf, ck⟩ := tak_root HC3.out.tk
              have cf2 := cf 16
              clear ck cf
              go_wp2
              go_end0
              exact ⟨gl, c, rfl, HC3.out.put 16 _ (tak_meta HC3.out.tk), HL3.out.only (set_only _ t 16 _) (fun a e _ => by cases e; exact HNE.out), HGE.out⟩
end Mk
end Go.Proofs.YtejnmpnioeamhaaGreat
