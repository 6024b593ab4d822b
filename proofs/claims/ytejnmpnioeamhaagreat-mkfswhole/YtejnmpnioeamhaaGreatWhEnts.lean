/-
  The root's entries are gone over.
-/
import Derived.Test.YtejnmpnioeamhaaGreatWhStay
namespace Go.Proofs.YtejnmpnioeamhaaGreat
open Go Go.Proofs Go.RowKit Go.Shelf
namespace Mk
open Sup (superL headL maskL nI nD bD)
open Din (inoL fineL inoV NAt)
open Ent (blockL okB EAt Ey entV noS noE)
theorem infoE : (Tryz.prog.info? 39).map (fun i => (i.zero, i.size, i.bytes)) = some (some (.slice none 0 0), 1, 24) := by kernel_rfl
/-- append(nil, nil): a row of rows of entries. -/
theorem append_rows (Y : World) : ∃ gd cd W6, (Builtin.append_ #[69, 69] 69 #[.slice none 0 0, .slice (some ⟨Y.heap.size, 0, none⟩) 1 1]).run Tryz.prog (Y.alloc (.cells #[.slice none 0 0] 39)) = .ok (.slice (some ⟨gd, 0, none⟩) 1 cd) W6 ∧ (∃ cur, W6.heap[gd]? = some (.cells cur 39 (0, 0)) ∧ cur[0]? = some (.slice none 0 0)) ∧ Y.heap.size ≤ gd ∧ Below Y.heap.size Y W6 := by
  cases hi : Tryz.prog.info? 39 with
  | none => have := infoE; rw [hi] at this; cases this
  | some i0 =>
    have h2 := infoE
    rw [hi] at h2
    simp at h2
    obtain ⟨hz0, hz1, hz2⟩ := h2
    have hnew := blk_new Y (.cells #[.slice none 0 0] 39)
    obtain ⟨v', W6, hr, hown, hgr, -⟩ := run_append_own (P := Tryz.prog) (Y.alloc (.cells #[.slice none 0 0] 39)) Y.heap.size 69 69 39 i0 (.slice none 0 0) 1 24 Tryz.underlying69 hi hz0 hz1 hz2 rfl (by decide) (.slice none 0 0) 0 [] (World.ownsRow_nil _ _ _ _) ⟨Y.heap.size, 0, none⟩ 1 1 [.slice none 0 0] rfl (fun j u hj => by
      match j, hj with
      | 0, hj => cases hj; rw [add_at, blk_cell hnew]; rfl) (fun u hu => by simp at hu; subst hu; rfl) (by unfold maxLen; omega) (by omega) (by simp)
    have hB6 : Below Y.heap.size Y W6 := ((Below.refl _ Y).alloc (Nat.le_refl _) _).grown hgr (by simp) (fun k hk => by simp [Value.ownBlock] at hk)
    rcases hown.2 with ⟨-, h0⟩ | ⟨gd, cd, cur, rfl, hge, hh, hnc, hmx, hsz, ht⟩
    · omega
    · refine ⟨gd, cd, W6, hr, ⟨cur, hh, ?_⟩, hge, hB6⟩
      have h1 : (cur.toList.take (1 * 1))[0]? = some (.slice none 0 0) := by
        rw [show (1 * 1 : Nat) = 0 + 1 by omega] at ht ⊢
        rw [ht]
        rfl
      rw [List.getElem?_take, if_pos (by omega)] at h1
      simpa using h1
/-- The row of rows is set. -/
theorem DrAt.start {p : Rp} {n nb nt : Nat} {G I D : Int} {xs : List Int} {t gl c go co : Nat} {w2 W6 : World} {gd cd : Nat} (h : TnAt p n nb nt G I D xs t gl c go co (.slice none 0 0) w2) (hb : ∃ cur, W6.heap[gd]? = some (.cells cur 39 (0, 0)) ∧ cur[0]? = some (.slice none 0 0)) (hge : w2.heap.size ≤ gd) (hB : Below w2.heap.size w2 W6) :
    W6.cell? ⟨t, 13, none⟩ = some (.slice none 0 0) ∧ W6.frozen? ⟨t, 13, none⟩ = false ∧ DrAt p n nb nt G I D xs t gl c go co gd cd (.slice none 0 0) (W6.setCell ⟨t, 13, none⟩ (.slice (some ⟨gd, 0, none⟩) 1 cd)) := by
  have h6 := h.new hB
  obtain ⟨c0, c1, c2, c3, c4, c5, c6, c7, cf, ck⟩ := tak_root h6.tk
  have l1 := h.rp.dk.lt
  have l2 := h.rp.dk.row.lt
  have l3 := lt_of_block h.rp.rep
  have l4 := lt_of_block h.rp.cla
  have l5 := lt_of_block h.rp.tab
  have l6 := h.tk.lt
  have l7 := h.lead.lt (by omega)
  have l8 := h.ord.lt (by omega)
  obtain ⟨cur, hb1, hb2⟩ := hb
  refine ⟨c4, cf 13, h6.dirs _, ⟨cur, ?_, hb2⟩, by omega, by omega, by omega, by omega, by omega, by omega, by omega, by omega⟩
  rw [(set_only W6 t 13 (.slice (some ⟨gd, 0, none⟩) 1 cd)).block gd (lt_of_block hb1) (by omega)]
  exact hb1
/-- The entries' row between two rounds. -/
structure EsAt (w : World) (p : Rp) (n nb nt : Nat) (G I D : Int) (xs : List Int) (t gl c go co gd cd : Nat) (al : Addr) (B : Nat) (m : Nat) (v : Value) (W : World) : Prop where
  dr : DrAt p n nb nt G I D xs t gl c go co gd cd v W
  row : W.ownsRow B 84 2 v m (Ey (freeL.take m))
  lst : EAt W (some al) 32 freeL
  only : Only (fun k => k = t) w W
  gB : gd < B
  lB : al.block < B
  gw : w.heap.size ≤ gd
  nl : al.block ≠ gd
  parts : p.d < B ∧ p.g < B ∧ p.r < B ∧ p.cb < B ∧ p.tb < B ∧ t < B ∧ gl < B ∧ go < B
theorem EsAt.new {w : World} {p : Rp} {n nb nt : Nat} {G I D : Int} {xs : List Int} {t gl c go co gd cd : Nat} {al : Addr} {B m : Nat} {v : Value} {W W' : World} (h : EsAt w p n nb nt G I D xs t gl c go co gd cd al B m v W) (hB : Below W.heap.size W W') : EsAt w p n nb nt G I D xs t gl c go co gd cd al B m v W' :=
  ⟨h.dr.new hB, owns_at h.row (fun j hj => hB.block j (h.row.lt j hj).2), h.lst.below hB, h.only.trans (Only.of_new (fun _ => False) hB) (fun _ e => e.elim), h.gB, h.lB, h.gw, h.nl, h.parts⟩
theorem EsAt.drew {w : World} {p : Rp} {n nb nt : Nat} {G I D : Int} {xs : List Int} {t gl c go co gd cd : Nat} {al : Addr} {B m : Nat} {v : Value} {W : World} (h : EsAt w p n nb nt G I D xs t gl c go co gd cd al B m v W) : EsAt w p n nb nt G I D xs t gl c go co gd cd al B m v W.drew :=
  ⟨h.dr.drew, h.row, h.lst, h.only.drew, h.gB, h.lB, h.gw, h.nl, h.parts⟩
/-- append(l, e): what lies elsewhere stays. -/
theorem appende_grown (W : World) (B : Nat) (v : Value) (n : Nat) (L : List (Int × ByteArray)) (i : Int) (s : ByteArray) (hown : W.ownsRow B 84 2 v n (Ey L)) (hB : B ≤ W.heap.size) (hn : n ≤ 16777216) :
    ∃ v' W', (Builtin.append_ #[39, 39] 39 #[v, .slice (some ⟨W.heap.size, 0, none⟩) 1 1]).run Tryz.prog (W.alloc (.cells (Ent.entC i s).toArray 84)) = .ok v' W' ∧ W'.ownsRow B 84 2 v' (n + 1) (Ey (L ++ [(i, s)])) ∧ W.grownBy W' v.ownBlock := by
  obtain ⟨i0, hi, hz0, hz1, hz2⟩ := Ent.info26p
  have hnew := blk_new W (.cells (Ent.entC i s).toArray 84)
  obtain ⟨v3, W3, hr, hown3, hg3, _⟩ := run_append_own (P := Tryz.prog) (W.alloc (.cells (Ent.entC i s).toArray 84)) B 39 39 84 i0 (entV 0 noS) 2 24 Tryz.underlying39 hi hz0 hz1 hz2 rfl (by decide) v n (Ey L) (hown.alloc _) ⟨W.heap.size, 0, none⟩ 1 1 (Ent.entC i s) rfl (fun j u hj => by
    match j, hj with
    | 0, hj => cases hj; rw [add_at, blk_cell hnew]; rfl
    | 1, hj => cases hj; rw [add_at, blk_cell hnew]; rfl) (Ent.entC_one i s) (by unfold maxLen; omega) (by omega) (by simp; omega)
  have e : Ey L ++ Ent.entC i s = Ey (L ++ [(i, s)]) := by rw [Ent.Ey_append]; simp [Ey]
  rw [e] at hown3
  refine ⟨v3, W3, hr, hown3, ⟨hg3.os, hg3.tape, hg3.output, Nat.le_trans (by simp) hg3.size, fun k hk hs => ?_⟩⟩
  rw [hg3.block k (by simp; omega) hs]
  exact Below.heap_alloc _ _ _ hk
/-- The next entry is put behind them. -/
theorem EsAt.step {w : World} {p : Rp} {n nb nt : Nat} {G I D : Int} {xs : List Int} {t gl c go co gd cd : Nat} {al : Addr} {B m : Nat} {v : Value} {W : World} (h : EsAt w p n nb nt G I D xs t gl c go co gd cd al B m v W) (hm : m < 32) (x : Int) (s : ByteArray) (hx : freeL.getD m noE = (x, s)) (hB : B ≤ W.heap.size) :
    ∃ gv cv W', (Builtin.append_ #[39, 39] 39 #[v, .slice (some ⟨W.heap.size, 0, none⟩) 1 1]).run Tryz.prog (W.alloc (.cells (Ent.entC x s).toArray 84)) = .ok (.slice (some ⟨gv, 0, none⟩) (m + 1) cv) W' ∧ W'.cell? ⟨gd, 0, none⟩ = some v ∧ W'.frozen? ⟨gd, 0, none⟩ = false ∧ W.grownBy W' v.ownBlock ∧ EsAt w p n nb nt G I D xs t gl c go co gd cd al B (m + 1) (.slice (some ⟨gv, 0, none⟩) (m + 1) cv) (W'.setCell ⟨gd, 0, none⟩ (.slice (some ⟨gv, 0, none⟩) (m + 1) cv)) := by
  obtain ⟨v', W', hr, hown, hgr⟩ := appende_grown W B v m (freeL.take m) x s h.row hB (by omega)
  have hbl : Below B W W' := (Below.refl _ W).grown hgr hB (fun k hk => (h.row.lt k hk).1)
  have e : freeL.take m ++ [(x, s)] = freeL.take (m + 1) := by
    rw [Ent.takeE_snoc freeL m (by rw [show freeL.length = 32 from rfl]; exact hm), hx]
  rw [e] at hown
  obtain ⟨l1, l2, l3, l4, l5, l6, l7, l8⟩ := h.parts
  have hg1 := h.gB
  have hg2 := h.lB
  have ho : Only (fun k => B ≤ k) W W' := Only.of_below (fun k => B ≤ k) hbl (fun k h1 _ => h1)
  have htn := h.dr.tn.only ho ⟨by omega, by omega, by omega, by omega, by omega, by omega, by omega, by omega⟩
  obtain ⟨cur, hb1, hb2⟩ := h.dr.blk
  have hdr : DrAt p n nb nt G I D xs t gl c go co gd cd v W' := ⟨htn, ⟨cur, (hbl.block gd hg1).trans hb1, hb2⟩, h.dr.ng⟩
  have hls := h.lst.only ho (fun a e _ => by cases e; show ¬ B ≤ al.block; omega)
  obtain ⟨d1, d2, d3⟩ := hdr.dir
  rcases hown.2 with ⟨-, h0⟩ | ⟨gv, cv, cur2, rfl, -, -, -, -, -⟩
  · omega
  have hO : Only (fun k => k = t) w W' := h.only.trans ho (fun i e => .inr (by have := h.gw; omega))
  refine ⟨gv, cv, W', hr, d1, d2, hgr, hdr.put _, owns_at hown (fun j hj => ?_), hls.only (set_only W' gd 0 _) (fun a e _ => by cases e; exact h.nl), hO.setCell (p := ⟨gd, 0, none⟩) (.inr h.gw) _, h.gB, h.lB, h.gw, h.nl, h.parts⟩
  exact (set_only W' gd 0 _).block j (hown.lt j hj).2 (by have := (hown.lt j hj).1; omega)
/-- A block that was made meanwhile turns. -/
theorem EsAt.other {w : World} {p : Rp} {n nb nt : Nat} {G I D : Int} {xs : List Int} {t gl c go co gd cd : Nat} {al : Addr} {B m : Nat} {v : Value} {W W' : World} (h : EsAt w p n nb nt G I D xs t gl c go co gd cd al B m v W) (be : Nat) (ho : Only (fun k => k = be) W W') (hbe : B ≤ be) (hbw : w.heap.size ≤ be) (hv : ∀ k, v.ownBlock = some k → k ≠ be) : EsAt w p n nb nt G I D xs t gl c go co gd cd al B m v W' := by
  obtain ⟨l1, l2, l3, l4, l5, l6, l7, l8⟩ := h.parts
  have hg1 := h.gB
  have hg2 := h.lB
  obtain ⟨cur, hb1, hb2⟩ := h.dr.blk
  exact ⟨⟨h.dr.tn.only ho ⟨by omega, by omega, by omega, by omega, by omega, by omega, by omega, by omega⟩, ⟨cur, (ho.block _ (lt_of_block hb1) (by omega)).trans hb1, hb2⟩, h.dr.ng⟩, owns_at h.row (fun j hj => ho.block j (h.row.lt j hj).2 (hv j hj)), h.lst.only ho (fun a e _ => by cases e; show al.block ≠ be; omega), h.only.trans ho (fun i e => .inr (by omega)), h.gB, h.lB, h.gw, h.nl, h.parts⟩
theorem EsAt.cells {w : World} {p : Rp} {n nb nt : Nat} {G I D : Int} {xs : List Int} {t gl c go co gd cd : Nat} {al : Addr} {B m : Nat} {v : Value} {W : World} (h : EsAt w p n nb nt G I D xs t gl c go co gd cd al B m v W) : W.cell? ⟨t, 13, none⟩ = some (.slice (some ⟨gd, 0, none⟩) 1 cd) ∧ W.cell? ⟨t, 14, none⟩ = some (.int .i64 1) := by
  obtain ⟨c0, c1, c2, c3, c4, c5, c6, c7, cf, ck⟩ := tak_root h.dr.tn.tk
  exact ⟨c4, c5⟩
set_option maxRecDepth 100000 in
set_option maxHeartbeats 8000000 in
theorem rentries_root (w : World) (p : Rp) (n nb nt : Nat) (G I D : Int) (hg : good G I D = true) (hnt : 2 ≤ nt ∧ nt ≤ 1000) (xs : List Int) (hx : ImgIs G I D xs) (hn : n = totN G I D * 1024) (t gl c go co : Nat) (h : TnAt p n nb nt G I D xs t gl c go co (.slice none 0 0) w) :
    Calls Tryz.prog 52 #[.pointer (some ⟨p.r, 0, none⟩), .int .i64 1] w fun e w' => e = .returned (.tuple #[]) ∧ ∃ gd cd ae cm, DrAt p n nb nt G I D xs t gl c go co gd cd (.slice (some ae) 32 cm) w' ∧ EAt w' (some ae) 32 freeL ∧ Only (fun k => k = t) w w' := by
  have hb := good_iff.1 hg
  obtain ⟨-, t2, t3, t4⟩ := tot_is hg
  rw [← hn] at t3
  obtain ⟨q, hq⟩ : ∃ q : Nat, q = (2 + I).toNat := ⟨_, rfl⟩
  have hq2 : (q : Int) = 2 + I := by omega
  have hqn : (q + 1) * 1024 ≤ n := by omega
  have HBK : Hid (∀ W : World, DkAt p.d p.g n G I D xs W → Calls Tryz.prog 49 #[.pointer (some ⟨p.d, 0, none⟩), .int .i64 (2 + I)] W fun e w' => e = .returned (.slice (some ⟨p.g, q * 1024, none⟩) 1024 (n - q * 1024)) ∧ w' = W) := Hid.mk (fun W hd => by
    rw [← hq2]
    exact dblock_any W p.d p.g n G I D xs hd q hqn t3)
  have HEN : Hid (∀ W : World, DkAt p.d p.g n G I D xs W → Calls Tryz.prog 79 #[.slice (some ⟨p.g, q * 1024, none⟩) 1024 (n - q * 1024)] W fun e w' => ∃ al cp, e = .returned (.slice (some al) 32 cp) ∧ EAt w' (some al) 32 freeL ∧ W.heap.size ≤ al.block ∧ Below W.heap.size W w') := Hid.mk (fun W hd => by
    have hba := hd.row.bat (q * 1024) 1024 (by rw [hx.len, ← hn]; omega)
    have hp := hx.dots
    rw [← hq] at hp
    unfold piece at hp
    rw [hp] at hba
    have hfe : Ent.entsL (blockL dotsL) 32 = freeL := ents_dots
    refine (Ent.rents_full W ⟨p.g, q * 1024, none⟩ (n - q * 1024) _ hba dots_bound (by omega) (by omega)).mono ?_
    rintro e w' ⟨v, rfl, hown, hB⟩
    rw [hfe] at hown
    obtain ⟨ao, c, rfl, hea, hge, -⟩ := Ent.owns_EAt hown
    obtain ⟨al, e, -⟩ := hea.2 (by omega)
    subst e
    exact ⟨al, c, rfl, hea, (hge al rfl).1, hB⟩)
  have HST := Hid.mk (fun W gd cd ae m cm hm hdr hea => stays_free W p n nb nt G I D hnt xs t gl c go co gd cd ae m cm hm hdr hea)
  obtain ⟨hnt2, hnt3⟩ := hnt
  obtain ⟨r0, r2, r3, r4, s1, c4, c5, c6, l0, o0⟩ := tn_cells h hnt2
  have HT0 := Hid.mk h
  clear h hg hx hn hb t2 t4 hq hq2 hqn t3
  go_enter Tryz.func52, Tryz.ntmps52
  go_wp2
  go_loopw [5] (fun i wr => (i = .int .i64 0 ∧ TnAt p n nb nt G I D xs t gl c go co (.slice none 0 0) wr ∧ Only (fun k => k = t) w wr) ∨ (i = .int .i64 1 ∧ ∃ gd cd ae cm, DrAt p n nb nt G I D xs t gl c go co gd cd (.slice (some ae) 32 cm) wr ∧ EAt wr (some ae) 32 freeL ∧ Only (fun k => k = t) w wr)) (fun i _ => 1 - (intOf i).toNat)
  case atStart => exact .inl ⟨rfl, HT0.out, Only.refl _ _⟩
  case round =>
    clear HT0 r0 r2 r3 r4 s1 c4 c5 c6 l0 o0
    rcases hrel with ⟨rfl, htn, hon⟩ | ⟨rfl, gd, cd, ae, cm, hdr, hea, hon⟩
    · obtain ⟨r0, r2, r3, r4, s1, c4, c5, c6, l0, o0⟩ := tn_cells htn hnt2
      have HT1 := Hid.mk htn
      have HO1 := Hid.mk hon
      clear htn hon
      go_wp2_with fail
      have HK : Hid (∀ W' : World, Below wr.heap.size wr.drew W' → TnAt p n nb nt G I D xs t gl c go co (.slice none 0 0) W' ∧ Only (fun k => k = t) w W') := Hid.mk (fun W' hB => ⟨TnAt.new (W := wr.drew) HT1.out.drew hB, HO1.out.drew.trans (Only.of_new (fun _ => False) hB) (fun _ e => e.elim)⟩)
      refine wp_region_held_drew (S := TnAt p n nb nt G I D xs t gl c go co (.slice none 0 0)) (by kernel_rfl) HT1.out.drew (fun hH => ?_)
      change wpAnyH Tryz.prog Region.Mode.any _ _ _ 14 _ _ _
      refine takeH 0 26 (.pointer (some ⟨p.r, 0, none⟩)) rfl (by kernel_rfl) (by kernel_rfl) (by kernel_rfl) (by kernel_rfl) (fun _ _ _ h => h) (by kernel_rfl) (fun w hw => by kernel_rfl) hH ?_
      simp only [List.setIfInBounds_toArray, List.set_cons_zero, List.set_cons_succ]
      refine takeH 1 27 (.pointer (some ⟨p.r, 0, none⟩)) rfl (by kernel_rfl) (by kernel_rfl) (by kernel_rfl) (by kernel_rfl) (fun _ _ _ h => h) (by kernel_rfl) (fun w hw => by kernel_rfl) hH ?_
      simp only [List.setIfInBounds_toArray, List.set_cons_zero, List.set_cons_succ]
      refine takeH 2 28 (.pointer (some ⟨p.r, 0, none⟩)) rfl (by kernel_rfl) (by kernel_rfl) (by kernel_rfl) (by kernel_rfl) (fun _ _ _ h => h) (by kernel_rfl) (fun w hw => by (obtain ⟨r0, r2, r3, r4, s1, c4, c5, c6, l0, o0⟩ := tn_cells hw hnt2; clear hw; go_simp)) hH ?_
      simp only [List.setIfInBounds_toArray, List.set_cons_zero, List.set_cons_succ]
      refine takeH 3 29 (.pointer (some ⟨p.d, 0, none⟩)) rfl (by kernel_rfl) (by kernel_rfl) (by kernel_rfl) (by kernel_rfl) (fun _ _ _ h => h) (by kernel_rfl) (fun w hw => by (obtain ⟨r0, r2, r3, r4, s1, c4, c5, c6, l0, o0⟩ := tn_cells hw hnt2; clear hw; go_simp)) hH ?_
      simp only [List.setIfInBounds_toArray, List.set_cons_zero, List.set_cons_succ]
      refine takeH 4 30 (.pointer (some ⟨t, 0, none⟩)) rfl (by kernel_rfl) (by kernel_rfl) (by kernel_rfl) (by kernel_rfl) (fun _ _ _ h => h) (by kernel_rfl) (fun w hw => by kernel_rfl) hH ?_
      simp only [List.setIfInBounds_toArray, List.set_cons_zero, List.set_cons_succ]
      refine takeH 5 31 (.pointer (some ⟨t, 0, none⟩)) rfl (by kernel_rfl) (by kernel_rfl) (by kernel_rfl) (by kernel_rfl) (fun _ _ _ h => h) (by kernel_rfl) (fun w hw => by kernel_rfl) hH ?_
      simp only [List.setIfInBounds_toArray, List.set_cons_zero, List.set_cons_succ]
      refine takeH 6 32 (.pointer (some ⟨t, 15, none⟩)) rfl (by kernel_rfl) (by kernel_rfl) (by kernel_rfl) (by kernel_rfl) (fun _ _ _ h => h) (by kernel_rfl) (fun w hw => by (obtain ⟨r0, r2, r3, r4, s1, c4, c5, c6, l0, o0⟩ := tn_cells hw hnt2; clear hw; go_simp)) hH ?_
      simp only [List.setIfInBounds_toArray, List.set_cons_zero, List.set_cons_succ]
      refine takeH 7 33 (.slice (some ⟨gl, 0, none⟩) 1 c) rfl (by kernel_rfl) (by kernel_rfl) (by kernel_rfl) (by kernel_rfl) (fun _ _ _ h => h) (by kernel_rfl) (fun w hw => by (obtain ⟨r0, r2, r3, r4, s1, c4, c5, c6, l0, o0⟩ := tn_cells hw hnt2; clear hw; go_simp)) hH ?_
      simp only [List.setIfInBounds_toArray, List.set_cons_zero, List.set_cons_succ]
      refine takeH 8 34 (.int .i64 0) rfl (by kernel_rfl) (by kernel_rfl) (by kernel_rfl) (by kernel_rfl) (fun _ _ _ h => h) (by kernel_rfl) (fun w hw => by kernel_rfl) hH ?_
      simp only [List.setIfInBounds_toArray, List.set_cons_zero, List.set_cons_succ]
      refine takeH 9 35 (.pointer (some ⟨gl, 0, none⟩)) rfl (by kernel_rfl) (by kernel_rfl) (by kernel_rfl) (by kernel_rfl) (fun _ _ _ h => h) (by kernel_rfl) (fun w hw => by (obtain ⟨r0, r2, r3, r4, s1, c4, c5, c6, l0, o0⟩ := tn_cells hw hnt2; clear hw; go_simp)) hH ?_
      simp only [List.setIfInBounds_toArray, List.set_cons_zero, List.set_cons_succ]
      refine takeH 10 36 (.int .i64 (2 + I)) rfl (by kernel_rfl) (by kernel_rfl) (by kernel_rfl) (by kernel_rfl) (fun _ _ _ h => h) (by kernel_rfl) (fun w hw => by (obtain ⟨r0, r2, r3, r4, s1, c4, c5, c6, l0, o0⟩ := tn_cells hw hnt2; clear hw; go_simp)) hH ?_
      simp only [List.setIfInBounds_toArray, List.set_cons_zero, List.set_cons_succ]
      refine stepH_call 11 37 rfl (by kernel_rfl) (by kernel_rfl) (by kernel_rfl) 49 #[.tmp 29, .tmp 36] #[48, 3] (by kernel_rfl) (enters_of Tryz.func49 (by kernel_rfl) rfl) #[.pointer (some ⟨p.d, 0, none⟩), .int .i64 (2 + I)] (by kernel_rfl) (HBK.out _ hH.rp.dk) ?_
      rintro e w9 ⟨rfl, hw⟩
      subst w9
      refine ⟨_, rfl, hH, ?_⟩
      simp only [List.setIfInBounds_toArray, List.set_cons_zero, List.set_cons_succ]
      refine stepH_call 12 38 rfl (by kernel_rfl) (by kernel_rfl) (by kernel_rfl) 79 #[.tmp 37] #[26] (by kernel_rfl) (enters_of Tryz.func79 (by kernel_rfl) rfl) #[.slice (some ⟨p.g, q * 1024, none⟩) 1024 (n - q * 1024)] (by kernel_rfl) (HEN.out _ hH.rp.dk) ?_
      rintro e w2 ⟨al, cp, rfl, hea, hal, hB2⟩
      have HNA : Hid (al.block ≠ t ∧ al.block < w2.heap.size) := Hid.mk ⟨by have := HT1.out.tk.lt; have h2 : wr.drew.heap.size = wr.heap.size := rfl; omega, by obtain ⟨a, e, h, -⟩ := hea.2 (by omega); cases e; exact h⟩
      have HT2 := Hid.mk (HK.out w2 hB2).1
      have HO2 := Hid.mk (HK.out w2 hB2).2
      have HEA2 := Hid.mk hea
      clear HK hH hB2 hea hal HT1 HO1
      refine ⟨_, rfl, HT2.out, ?_⟩
      simp only [List.setIfInBounds_toArray, List.set_cons_zero, List.set_cons_succ]
      refine takeH 13 6 (.slice (some al) 32 cp) rfl (by kernel_rfl) (by kernel_rfl) (by kernel_rfl) (by kernel_rfl) (fun _ _ _ h => h) (by kernel_rfl) (fun w hw => by kernel_rfl) HT2.out ?_
      simp only [List.setIfInBounds_toArray, List.set_cons_zero, List.set_cons_succ]
      refine wpAnyH_done (by kernel_rfl) ?_ _
      clear r0 r2 r3 r4 s1 c4 c5 c6 l0 o0
      obtain ⟨r0, r2, r3, r4, s1, c4, c5, c6, l0, o0⟩ := tn_cells HT2.out hnt2
      obtain ⟨gd, cd, W6, ar6, ab6, ag6, aB6⟩ := append_rows w2
      obtain ⟨f0, f1, hdr⟩ := DrAt.start (cd := cd) HT2.out ab6 ag6 aB6
      have HR6 := Hid.mk ar6
      go_wp2_with (at_builtin; refine wpList_append_known rfl (.tmp 52) (.tmp 53) 69 rfl _ _ _ _ rfl rfl HR6.out ?_)
      have HES : Hid (EsAt w p n nb nt G I D xs t gl c go co gd cd al W6.heap.size 0 (.slice none 0 0) (W6.setCell ⟨t, 13, none⟩ (.slice (some ⟨gd, 0, none⟩) 1 cd))) := Hid.mk (by
        have h1 := HT2.out.rp.dk.lt
        have h2 := HT2.out.rp.dk.row.lt
        have h3 := lt_of_block HT2.out.rp.rep
        have h4 := lt_of_block HT2.out.rp.cla
        have h5 := lt_of_block HT2.out.rp.tab
        have h6 := HT2.out.tk.lt
        have h7 := HT2.out.lead.lt (by omega)
        have h8 := HT2.out.ord.lt (by omega)
        have h9 := aB6.size
        have hA := HNA.out
        have hw2 := HO2.out.size
        obtain ⟨cur, hb1, -⟩ := ab6
        have hgd := lt_of_block hb1
        exact ⟨hdr, World.ownsRow_nil _ _ _ _, (HEA2.out.below aB6).only (set_only W6 t 13 _) (fun a e _ => by cases e; exact hA.1), (HO2.out.trans (Only.of_new (fun _ => False) aB6) (fun _ e => e.elim)).setCell (p := ⟨t, 13, none⟩) (.inl rfl) _, hgd, by omega, by omega, by omega, by omega, by omega, by omega, by omega, by omega, by omega, by omega, by omega⟩)
      have HSZ : Hid (W6.heap.size ≤ (W6.setCell ⟨t, 13, none⟩ (.slice (some ⟨gd, 0, none⟩) 1 cd)).heap.size) := Hid.mk (by simp [World.setCell])
      generalize W6.setCell ⟨t, 13, none⟩ (.slice (some ⟨gd, 0, none⟩) 1 cd) = W7 at *
      generalize W6.heap.size = B at *
      clear r0 r2 r3 r4 s1 c4 c5 c6 l0 o0 f0 f1 hdr HR6 ab6 ag6 aB6 ar6 HT2 HO2 HEA2 HNA HEN HBK
      go_loopw [7] (fun i wr => ∃ (m : Nat) (v : Value), m ≤ 32 ∧ i = .int .i64 m ∧ EsAt w p n nb nt G I D xs t gl c go co gd cd al B m v wr ∧ B ≤ wr.heap.size) (fun i _ => 32 - (intOf i).toNat)
      case atStart => exact ⟨0, _, by omega, rfl, HES.out, HSZ.out⟩
      case round =>
        obtain ⟨m, v, hm, rfl, hes, hsz⟩ := hrel
        have HE1 := Hid.mk hes
        have HS1 := Hid.mk hsz
        clear hes hsz HES HSZ
        by_cases hlt : m < 32
        · obtain ⟨a', e', -, hld, -⟩ := HE1.out.lst.at m hlt
          cases e'
          obtain ⟨x0, hx0⟩ : ∃ x0, x0 = freeL.getD m noE := ⟨_, rfl⟩
          rw [← hx0] at hld
          obtain ⟨X1, Y1, be, hrX, hrY, hNY, hBY, hbe⟩ := Ent.var26 wr x0.1 x0.2
          have HLD := Hid.mk hld
          have HRX := Hid.mk hrX
          have HRY := Hid.mk hrY
          have HNY := Hid.mk hNY
          have HE2 := Hid.mk (HE1.out.new hBY)
          have HS2 : Hid (B ≤ Y1.heap.size) := Hid.mk (Nat.le_trans HS1.out hBY.size)
          have HBE : Hid (B ≤ be) := Hid.mk (Nat.le_trans HS1.out hbe)
          have HBW : Hid (wr.heap.size ≤ be) := Hid.mk hbe
          have HX0 := Hid.mk hx0
          clear hld hrX hrY hNY hBY hbe hx0
          have HOV : Hid (∀ k, v.ownBlock = some k → k ≠ be) := Hid.mk (fun k hk => by have h1 := (HE1.out.row.lt k hk).2; have h2 := HBW.out; omega)
          have HWB : Hid (w.heap.size ≤ be) := Hid.mk (by have h1 := HE1.out.only.size; have h2 := HBW.out; omega)
          have hc14 := HE2.out.cells.2
          by_cases hm0 : m = 0
          · subst hm0
            obtain ⟨Y2, hr2, hn2, ho2⟩ := Ent.store26_run (j := 1) (t := ⟨#[46]⟩) HNY.out
            have HR2 := Hid.mk hr2
            have HN2 := Hid.mk hn2
            have HE3 := Hid.mk (HE2.out.other be ho2 HBE.out HWB.out HOV.out)
            have HS3 : Hid (B ≤ Y2.heap.size) := Hid.mk (Nat.le_trans HS2.out ho2.size)
            have HXE : Hid (freeL.getD 0 noE = (1, ⟨#[46]⟩)) := Hid.mk rfl
            clear hr2 hn2 ho2
            go_wp2_with (first
              | (refine Ent.wpL_loadat (.tmp 63) rfl rfl _ x0.1 x0.2 rfl HLD.out ?_; simp only [Act.put, List.setIfInBounds_toArray, List.set_cons_zero, List.set_cons_succ])
              | (refine Ent.wpL_new rfl rfl _ X1 HRX.out ?_; simp only [Act.put, List.setIfInBounds_toArray, List.set_cons_zero, List.set_cons_succ])
              | (refine Ent.wpL_store (.tmp 8) (.tmp 64) rfl rfl _ _ Y1 rfl rfl HRY.out ?_; simp only [Act.put])
              | (refine Ent.wpL_buildtwo (.tmp 79) (.const (.string ⟨#[46]⟩)) rfl rfl 1 ⟨#[46]⟩ rfl rfl ?_; simp only [Act.put, List.setIfInBounds_toArray, List.set_cons_zero, List.set_cons_succ])
              | (refine Ent.wpL_store (.tmp 8) (.tmp 80) rfl rfl _ _ Y2 rfl rfl HR2.out ?_; simp only [Act.put]))
            obtain ⟨gv, cv, W9, hr9, hd9, hf9, hg9, hes9⟩ := HE3.out.drew.step hlt 1 ⟨#[46]⟩ HXE.out HS3.out
            have hdv := HE3.out.dr.dir.1
            have hcd := HE3.out.cells.1
            have HA9 : Hid (((Y2.drew.alloc (.cells (Ent.entC 1 ⟨#[46]⟩).toArray 84)).cell? ⟨gd, 0, none⟩ = some (v)) ∧ ((Y2.drew.alloc (.cells (Ent.entC 1 ⟨#[46]⟩).toArray 84)).cell? ⟨t, 13, none⟩ = some (.slice (some ⟨gd, 0, none⟩) 1 cd)) ∧ Ent.NAt be 1 ⟨#[46]⟩ (Y2.drew.alloc (.cells (Ent.entC 1 ⟨#[46]⟩).toArray 84))) := Hid.mk (by
              have hB9 : Below Y2.drew.heap.size Y2.drew (Y2.drew.alloc (.cells (Ent.entC 1 ⟨#[46]⟩).toArray 84)) := (Below.refl _ _).alloc (Nat.le_refl _) _
              have he9 := HE3.out.drew.new hB9
              have hn9 : Ent.NAt be 1 ⟨#[46]⟩ Y2.drew := HN2.out
              exact ⟨he9.dr.dir.1, he9.cells.1, hn9.below hB9 HN2.out.lt⟩)
            have HS9 : Hid (W9.cell? ⟨t, 13, none⟩ = some (.slice (some ⟨gd, 0, none⟩) 1 cd) ∧ Ent.NAt be 1 ⟨#[46]⟩ W9 ∧ (W9.setCell ⟨gd, 0, none⟩ (.slice (some ⟨gv, 0, none⟩) (0 + 1) cv)).cell? ⟨t, 13, none⟩ = some (.slice (some ⟨gd, 0, none⟩) 1 cd) ∧ Ent.NAt be 1 ⟨#[46]⟩ (W9.setCell ⟨gd, 0, none⟩ (.slice (some ⟨gv, 0, none⟩) (0 + 1) cv)) ∧ B ≤ (W9.setCell ⟨gd, 0, none⟩ (.slice (some ⟨gv, 0, none⟩) (0 + 1) cv)).heap.size) := Hid.mk (by
              have hn9 : Ent.NAt be 1 ⟨#[46]⟩ Y2.drew := HN2.out
              have hnW : Ent.NAt be 1 ⟨#[46]⟩ W9 := (hg9.block be HN2.out.lt (fun e => HOV.out be e.symm rfl)).trans hn9
              have htk := HE3.out.drew.dr.tn.tk
              have hpt := HE3.out.parts.2.2.2.2.2.1
              have htW : TkAt t (rootL I) (.slice (some ⟨gd, 0, none⟩) 1 cd) 1 (.slice (some ⟨gl, 0, none⟩) 1 c) W9 := (hg9.block t htk.lt (fun e => by have h1 := (HE3.out.row.lt t e.symm).1; omega)).trans htk
              have hsz9 : (W9.setCell ⟨gd, 0, none⟩ (.slice (some ⟨gv, 0, none⟩) (0 + 1) cv)).heap.size = W9.heap.size := by simp [World.setCell]
              have hZs : Y2.drew.heap.size = Y2.heap.size := rfl
              have hgs := hg9.size
              have hS3 := HS3.out
              exact ⟨(tak_root htW).2.2.2.2.1, hnW, hes9.cells.1, (set_only W9 gd 0 _).block be hnW.lt (by have h1 := HE3.out.gB; have h2 := HBE.out; omega) |>.trans hnW, by omega⟩)
            have HR9 := Hid.mk hr9
            have HES9 := Hid.mk hes9
            have hst9 : (Instr.storeAt 39 (.pointer (some ⟨gd, 0, none⟩)) (.slice (some ⟨gv, 0, none⟩) (0 + 1) cv)).run Tryz.prog W9 = .ok () (W9.setCell ⟨gd, 0, none⟩ (.slice (some ⟨gv, 0, none⟩) (0 + 1) cv)) := by go_simp
            have HST9 := Hid.mk hst9
            clear hr9 hes9 hg9 hst9 hd9 hf9
            refine wp_region_held_drew (S := fun W => W.cell? ⟨t, 13, none⟩ = some (.slice (some ⟨gd, 0, none⟩) 1 cd) ∧ Ent.NAt be 1 ⟨#[46]⟩ W) (by kernel_rfl) ⟨hcd, HN2.out⟩ (fun hH => ?_)
            change wpAnyH Tryz.prog Region.Mode.any _ _ _ 17 _ _ _
            refine takeH 0 93 (.pointer (some ⟨t, 0, none⟩)) rfl (by kernel_rfl) (by kernel_rfl) (by kernel_rfl) (by kernel_rfl) (fun _ _ _ h => h) (by kernel_rfl) (fun w hw => by kernel_rfl) hH ?_
            simp only [List.setIfInBounds_toArray, List.set_cons_zero, List.set_cons_succ]
            refine takeH 1 94 (.pointer (some ⟨t, 0, none⟩)) rfl (by kernel_rfl) (by kernel_rfl) (by kernel_rfl) (by kernel_rfl) (fun _ _ _ h => h) (by kernel_rfl) (fun w hw => by kernel_rfl) hH ?_
            simp only [List.setIfInBounds_toArray, List.set_cons_zero, List.set_cons_succ]
            refine takeH 2 95 (.pointer (some ⟨t, 13, none⟩)) rfl (by kernel_rfl) (by kernel_rfl) (by kernel_rfl) (by kernel_rfl) (fun _ _ _ h => h) (by kernel_rfl) (fun w hw => by (obtain ⟨k0, -⟩ := hw; go_simp)) hH ?_
            simp only [List.setIfInBounds_toArray, List.set_cons_zero, List.set_cons_succ]
            refine takeH 3 96 (.slice (some ⟨gd, 0, none⟩) 1 cd) rfl (by kernel_rfl) (by kernel_rfl) (by kernel_rfl) (by kernel_rfl) (fun _ _ _ h => h) (by kernel_rfl) (fun w hw => by (obtain ⟨k0, -⟩ := hw; go_simp)) hH ?_
            simp only [List.setIfInBounds_toArray, List.set_cons_zero, List.set_cons_succ]
            refine takeH 4 97 (.int .i64 0) rfl (by kernel_rfl) (by kernel_rfl) (by kernel_rfl) (by kernel_rfl) (fun _ _ _ h => h) (by kernel_rfl) (fun w hw => by kernel_rfl) hH ?_
            simp only [List.setIfInBounds_toArray, List.set_cons_zero, List.set_cons_succ]
            refine takeH 5 98 (.pointer (some ⟨t, 0, none⟩)) rfl (by kernel_rfl) (by kernel_rfl) (by kernel_rfl) (by kernel_rfl) (fun _ _ _ h => h) (by kernel_rfl) (fun w hw => by kernel_rfl) hH ?_
            simp only [List.setIfInBounds_toArray, List.set_cons_zero, List.set_cons_succ]
            refine takeH 6 99 (.pointer (some ⟨t, 0, none⟩)) rfl (by kernel_rfl) (by kernel_rfl) (by kernel_rfl) (by kernel_rfl) (fun _ _ _ h => h) (by kernel_rfl) (fun w hw => by kernel_rfl) hH ?_
            simp only [List.setIfInBounds_toArray, List.set_cons_zero, List.set_cons_succ]
            refine takeH 7 100 (.pointer (some ⟨t, 13, none⟩)) rfl (by kernel_rfl) (by kernel_rfl) (by kernel_rfl) (by kernel_rfl) (fun _ _ _ h => h) (by kernel_rfl) (fun w hw => by (obtain ⟨k0, -⟩ := hw; go_simp)) hH ?_
            simp only [List.setIfInBounds_toArray, List.set_cons_zero, List.set_cons_succ]
            refine takeH 8 101 (.slice (some ⟨gd, 0, none⟩) 1 cd) rfl (by kernel_rfl) (by kernel_rfl) (by kernel_rfl) (by kernel_rfl) (fun _ _ _ h => h) (by kernel_rfl) (fun w hw => by (obtain ⟨k0, -⟩ := hw; go_simp)) hH ?_
            simp only [List.setIfInBounds_toArray, List.set_cons_zero, List.set_cons_succ]
            refine takeH 9 102 (.int .i64 0) rfl (by kernel_rfl) (by kernel_rfl) (by kernel_rfl) (by kernel_rfl) (fun _ _ _ h => h) (by kernel_rfl) (fun w hw => by kernel_rfl) hH ?_
            simp only [List.setIfInBounds_toArray, List.set_cons_zero, List.set_cons_succ]
            refine takeH 10 103 (.pointer (some ⟨gd, 0, none⟩)) rfl (by kernel_rfl) (by kernel_rfl) (by kernel_rfl) (by kernel_rfl) (fun _ _ _ h => h) (by kernel_rfl) (fun w hw => by (obtain ⟨k0, -⟩ := hw; go_simp)) hH ?_
            simp only [List.setIfInBounds_toArray, List.set_cons_zero, List.set_cons_succ]
            refine takeH 12 105 (entV 1 ⟨#[46]⟩) rfl (by kernel_rfl) (by kernel_rfl) (by kernel_rfl) (by kernel_rfl) (fun _ _ _ h => h) (by kernel_rfl) (fun w hw => by exact Ent.exec_load26 (x := .tmp 8) rfl (by kernel_rfl) (Ent.load26_run hw.2)) hH ?_
            simp only [List.setIfInBounds_toArray, List.set_cons_zero, List.set_cons_succ]
            refine stepH_two 11 13 (by kernel_rfl) ?_ ?_
            · refine opH_run 11 104 (v) Y2.drew rfl (by kernel_rfl) (by kernel_rfl) (by (have k1 : Y2.drew.cell? ⟨gd, 0, none⟩ = some (v) := hdv); go_simp) hH ?_
              simp only [List.setIfInBounds_toArray, List.set_cons_zero, List.set_cons_succ]
              refine stepH_run 13 106 (.slice (some ⟨Y2.drew.heap.size, 0, none⟩) 1 1) (Y2.drew.alloc (.cells (Ent.entC 1 ⟨#[46]⟩).toArray 84)) rfl (by kernel_rfl) (by kernel_rfl) (by kernel_rfl) (Ent.exec_one26 (x := .tmp 105) rfl (by kernel_rfl)) ⟨HA9.out.2.1, HA9.out.2.2⟩ ?_
              simp only [List.setIfInBounds_toArray, List.set_cons_zero, List.set_cons_succ]
              refine stepH_run 14 107 (.slice (some ⟨gv, 0, none⟩) (0 + 1) cv) W9 rfl (by kernel_rfl) (by kernel_rfl) (by kernel_rfl) (Din.exec_append (s := .tmp 104) (x := .tmp 106) rfl (by kernel_rfl) (by kernel_rfl) HR9.out) ⟨HS9.out.1, HS9.out.2.1⟩ ?_
              simp only [List.setIfInBounds_toArray, List.set_cons_zero, List.set_cons_succ]
              refine takeH 15 108 (.pointer (some ⟨gd, 0, none⟩)) rfl (by kernel_rfl) (by kernel_rfl) (by kernel_rfl) (by kernel_rfl) (fun _ _ _ h => h) (by kernel_rfl) (fun w hw => by (obtain ⟨k0, -⟩ := hw; go_simp)) ⟨HS9.out.1, HS9.out.2.1⟩ ?_
              simp only [List.setIfInBounds_toArray, List.set_cons_zero, List.set_cons_succ]
              refine stepH_one 16 (by kernel_rfl) ?_
              refine opH_store 16 (W9.setCell ⟨gd, 0, none⟩ (.slice (some ⟨gv, 0, none⟩) (0 + 1) cv)) rfl (by kernel_rfl) (by kernel_rfl) (exec_store (p := .tmp 108) (x := .tmp 107) rfl (by kernel_rfl) (by kernel_rfl) HST9.out) ⟨HS9.out.2.2.1, HS9.out.2.2.2.1⟩ ?_
              refine wpAnyH_done (by kernel_rfl) ?_ _
              clear hH hcd hdv
              go_wp2
              go_roundw
              case rel => exact ⟨0 + 1, _, by omega, by go_num, HES9.out, HS9.out.2.2.2.2⟩
              case measure => simp [intOf]
            · refine opH_run 13 106 (.slice (some ⟨Y2.drew.heap.size, 0, none⟩) 1 1) (Y2.drew.alloc (.cells (Ent.entC 1 ⟨#[46]⟩).toArray 84)) rfl (by kernel_rfl) (by kernel_rfl) (Ent.exec_one26 (x := .tmp 105) rfl (by kernel_rfl)) ⟨HA9.out.2.1, HA9.out.2.2⟩ ?_
              simp only [List.setIfInBounds_toArray, List.set_cons_zero, List.set_cons_succ]
              refine stepH_run 11 104 (v) (Y2.drew.alloc (.cells (Ent.entC 1 ⟨#[46]⟩).toArray 84)) rfl (by kernel_rfl) (by kernel_rfl) (by kernel_rfl) (by have k1 := HA9.out.1; revert k1; generalize (Y2.drew.alloc (.cells (Ent.entC 1 ⟨#[46]⟩).toArray 84)) = WB; intro k1; go_simp) ⟨HA9.out.2.1, HA9.out.2.2⟩ ?_
              simp only [List.setIfInBounds_toArray, List.set_cons_zero, List.set_cons_succ]
              refine stepH_run 14 107 (.slice (some ⟨gv, 0, none⟩) (0 + 1) cv) W9 rfl (by kernel_rfl) (by kernel_rfl) (by kernel_rfl) (Din.exec_append (s := .tmp 104) (x := .tmp 106) rfl (by kernel_rfl) (by kernel_rfl) HR9.out) ⟨HS9.out.1, HS9.out.2.1⟩ ?_
              simp only [List.setIfInBounds_toArray, List.set_cons_zero, List.set_cons_succ]
              refine takeH 15 108 (.pointer (some ⟨gd, 0, none⟩)) rfl (by kernel_rfl) (by kernel_rfl) (by kernel_rfl) (by kernel_rfl) (fun _ _ _ h => h) (by kernel_rfl) (fun w hw => by (obtain ⟨k0, -⟩ := hw; go_simp)) ⟨HS9.out.1, HS9.out.2.1⟩ ?_
              simp only [List.setIfInBounds_toArray, List.set_cons_zero, List.set_cons_succ]
              refine stepH_one 16 (by kernel_rfl) ?_
              refine opH_store 16 (W9.setCell ⟨gd, 0, none⟩ (.slice (some ⟨gv, 0, none⟩) (0 + 1) cv)) rfl (by kernel_rfl) (by kernel_rfl) (exec_store (p := .tmp 108) (x := .tmp 107) rfl (by kernel_rfl) (by kernel_rfl) HST9.out) ⟨HS9.out.2.2.1, HS9.out.2.2.2.1⟩ ?_
              refine wpAnyH_done (by kernel_rfl) ?_ _
              clear hH hcd hdv
              go_wp2
              go_roundw
              case rel => exact ⟨0 + 1, _, by omega, by go_num, HES9.out, HS9.out.2.2.2.2⟩
              case measure => simp [intOf]
          · by_cases hm1 : m = 1
            · subst hm1
              obtain ⟨Y2, hr2, hn2, ho2⟩ := Ent.store26_run (j := 1) (t := ⟨#[46, 46]⟩) HNY.out
              have HR2 := Hid.mk hr2
              have HN2 := Hid.mk hn2
              have HE3 := Hid.mk (HE2.out.other be ho2 HBE.out HWB.out HOV.out)
              have HS3 : Hid (B ≤ Y2.heap.size) := Hid.mk (Nat.le_trans HS2.out ho2.size)
              have HXE : Hid (freeL.getD 1 noE = (1, ⟨#[46, 46]⟩)) := Hid.mk rfl
              clear hr2 hn2 ho2
              go_wp2_with (first
                | (refine Ent.wpL_loadat (.tmp 63) rfl rfl _ x0.1 x0.2 rfl HLD.out ?_; simp only [Act.put, List.setIfInBounds_toArray, List.set_cons_zero, List.set_cons_succ])
                | (refine Ent.wpL_new rfl rfl _ X1 HRX.out ?_; simp only [Act.put, List.setIfInBounds_toArray, List.set_cons_zero, List.set_cons_succ])
                | (refine Ent.wpL_store (.tmp 8) (.tmp 64) rfl rfl _ _ Y1 rfl rfl HRY.out ?_; simp only [Act.put])
                | (refine Ent.wpL_buildtwo (.tmp 91) (.const (.string ⟨#[46, 46]⟩)) rfl rfl 1 ⟨#[46, 46]⟩ rfl rfl ?_; simp only [Act.put, List.setIfInBounds_toArray, List.set_cons_zero, List.set_cons_succ])
                | (refine Ent.wpL_store (.tmp 8) (.tmp 92) rfl rfl _ _ Y2 rfl rfl HR2.out ?_; simp only [Act.put]))
              obtain ⟨gv, cv, W9, hr9, hd9, hf9, hg9, hes9⟩ := HE3.out.drew.step hlt 1 ⟨#[46, 46]⟩ HXE.out HS3.out
              have hdv := HE3.out.dr.dir.1
              have hcd := HE3.out.cells.1
              have HA9 : Hid (((Y2.drew.alloc (.cells (Ent.entC 1 ⟨#[46, 46]⟩).toArray 84)).cell? ⟨gd, 0, none⟩ = some (v)) ∧ ((Y2.drew.alloc (.cells (Ent.entC 1 ⟨#[46, 46]⟩).toArray 84)).cell? ⟨t, 13, none⟩ = some (.slice (some ⟨gd, 0, none⟩) 1 cd)) ∧ Ent.NAt be 1 ⟨#[46, 46]⟩ (Y2.drew.alloc (.cells (Ent.entC 1 ⟨#[46, 46]⟩).toArray 84))) := Hid.mk (by
                have hB9 : Below Y2.drew.heap.size Y2.drew (Y2.drew.alloc (.cells (Ent.entC 1 ⟨#[46, 46]⟩).toArray 84)) := (Below.refl _ _).alloc (Nat.le_refl _) _
                have he9 := HE3.out.drew.new hB9
                have hn9 : Ent.NAt be 1 ⟨#[46, 46]⟩ Y2.drew := HN2.out
                exact ⟨he9.dr.dir.1, he9.cells.1, hn9.below hB9 HN2.out.lt⟩)
              have HS9 : Hid (W9.cell? ⟨t, 13, none⟩ = some (.slice (some ⟨gd, 0, none⟩) 1 cd) ∧ Ent.NAt be 1 ⟨#[46, 46]⟩ W9 ∧ (W9.setCell ⟨gd, 0, none⟩ (.slice (some ⟨gv, 0, none⟩) (1 + 1) cv)).cell? ⟨t, 13, none⟩ = some (.slice (some ⟨gd, 0, none⟩) 1 cd) ∧ Ent.NAt be 1 ⟨#[46, 46]⟩ (W9.setCell ⟨gd, 0, none⟩ (.slice (some ⟨gv, 0, none⟩) (1 + 1) cv)) ∧ B ≤ (W9.setCell ⟨gd, 0, none⟩ (.slice (some ⟨gv, 0, none⟩) (1 + 1) cv)).heap.size) := Hid.mk (by
                have hn9 : Ent.NAt be 1 ⟨#[46, 46]⟩ Y2.drew := HN2.out
                have hnW : Ent.NAt be 1 ⟨#[46, 46]⟩ W9 := (hg9.block be HN2.out.lt (fun e => HOV.out be e.symm rfl)).trans hn9
                have htk := HE3.out.drew.dr.tn.tk
                have hpt := HE3.out.parts.2.2.2.2.2.1
                have htW : TkAt t (rootL I) (.slice (some ⟨gd, 0, none⟩) 1 cd) 1 (.slice (some ⟨gl, 0, none⟩) 1 c) W9 := (hg9.block t htk.lt (fun e => by have h1 := (HE3.out.row.lt t e.symm).1; omega)).trans htk
                have hsz9 : (W9.setCell ⟨gd, 0, none⟩ (.slice (some ⟨gv, 0, none⟩) (1 + 1) cv)).heap.size = W9.heap.size := by simp [World.setCell]
                have hZs : Y2.drew.heap.size = Y2.heap.size := rfl
                have hgs := hg9.size
                have hS3 := HS3.out
                exact ⟨(tak_root htW).2.2.2.2.1, hnW, hes9.cells.1, (set_only W9 gd 0 _).block be hnW.lt (by have h1 := HE3.out.gB; have h2 := HBE.out; omega) |>.trans hnW, by omega⟩)
              have HR9 := Hid.mk hr9
              have HES9 := Hid.mk hes9
              have hst9 : (Instr.storeAt 39 (.pointer (some ⟨gd, 0, none⟩)) (.slice (some ⟨gv, 0, none⟩) (1 + 1) cv)).run Tryz.prog W9 = .ok () (W9.setCell ⟨gd, 0, none⟩ (.slice (some ⟨gv, 0, none⟩) (1 + 1) cv)) := by go_simp
              have HST9 := Hid.mk hst9
              clear hr9 hes9 hg9 hst9 hd9 hf9
              refine wp_region_held_drew (S := fun W => W.cell? ⟨t, 13, none⟩ = some (.slice (some ⟨gd, 0, none⟩) 1 cd) ∧ Ent.NAt be 1 ⟨#[46, 46]⟩ W) (by kernel_rfl) ⟨hcd, HN2.out⟩ (fun hH => ?_)
              change wpAnyH Tryz.prog Region.Mode.any _ _ _ 17 _ _ _
              refine takeH 0 93 (.pointer (some ⟨t, 0, none⟩)) rfl (by kernel_rfl) (by kernel_rfl) (by kernel_rfl) (by kernel_rfl) (fun _ _ _ h => h) (by kernel_rfl) (fun w hw => by kernel_rfl) hH ?_
              simp only [List.setIfInBounds_toArray, List.set_cons_zero, List.set_cons_succ]
              refine takeH 1 94 (.pointer (some ⟨t, 0, none⟩)) rfl (by kernel_rfl) (by kernel_rfl) (by kernel_rfl) (by kernel_rfl) (fun _ _ _ h => h) (by kernel_rfl) (fun w hw => by kernel_rfl) hH ?_
              simp only [List.setIfInBounds_toArray, List.set_cons_zero, List.set_cons_succ]
              refine takeH 2 95 (.pointer (some ⟨t, 13, none⟩)) rfl (by kernel_rfl) (by kernel_rfl) (by kernel_rfl) (by kernel_rfl) (fun _ _ _ h => h) (by kernel_rfl) (fun w hw => by (obtain ⟨k0, -⟩ := hw; go_simp)) hH ?_
              simp only [List.setIfInBounds_toArray, List.set_cons_zero, List.set_cons_succ]
              refine takeH 3 96 (.slice (some ⟨gd, 0, none⟩) 1 cd) rfl (by kernel_rfl) (by kernel_rfl) (by kernel_rfl) (by kernel_rfl) (fun _ _ _ h => h) (by kernel_rfl) (fun w hw => by (obtain ⟨k0, -⟩ := hw; go_simp)) hH ?_
              simp only [List.setIfInBounds_toArray, List.set_cons_zero, List.set_cons_succ]
              refine takeH 4 97 (.int .i64 0) rfl (by kernel_rfl) (by kernel_rfl) (by kernel_rfl) (by kernel_rfl) (fun _ _ _ h => h) (by kernel_rfl) (fun w hw => by kernel_rfl) hH ?_
              simp only [List.setIfInBounds_toArray, List.set_cons_zero, List.set_cons_succ]
              refine takeH 5 98 (.pointer (some ⟨t, 0, none⟩)) rfl (by kernel_rfl) (by kernel_rfl) (by kernel_rfl) (by kernel_rfl) (fun _ _ _ h => h) (by kernel_rfl) (fun w hw => by kernel_rfl) hH ?_
              simp only [List.setIfInBounds_toArray, List.set_cons_zero, List.set_cons_succ]
              refine takeH 6 99 (.pointer (some ⟨t, 0, none⟩)) rfl (by kernel_rfl) (by kernel_rfl) (by kernel_rfl) (by kernel_rfl) (fun _ _ _ h => h) (by kernel_rfl) (fun w hw => by kernel_rfl) hH ?_
              simp only [List.setIfInBounds_toArray, List.set_cons_zero, List.set_cons_succ]
              refine takeH 7 100 (.pointer (some ⟨t, 13, none⟩)) rfl (by kernel_rfl) (by kernel_rfl) (by kernel_rfl) (by kernel_rfl) (fun _ _ _ h => h) (by kernel_rfl) (fun w hw => by (obtain ⟨k0, -⟩ := hw; go_simp)) hH ?_
              simp only [List.setIfInBounds_toArray, List.set_cons_zero, List.set_cons_succ]
              refine takeH 8 101 (.slice (some ⟨gd, 0, none⟩) 1 cd) rfl (by kernel_rfl) (by kernel_rfl) (by kernel_rfl) (by kernel_rfl) (fun _ _ _ h => h) (by kernel_rfl) (fun w hw => by (obtain ⟨k0, -⟩ := hw; go_simp)) hH ?_
              simp only [List.setIfInBounds_toArray, List.set_cons_zero, List.set_cons_succ]
              refine takeH 9 102 (.int .i64 0) rfl (by kernel_rfl) (by kernel_rfl) (by kernel_rfl) (by kernel_rfl) (fun _ _ _ h => h) (by kernel_rfl) (fun w hw => by kernel_rfl) hH ?_
              simp only [List.setIfInBounds_toArray, List.set_cons_zero, List.set_cons_succ]
              refine takeH 10 103 (.pointer (some ⟨gd, 0, none⟩)) rfl (by kernel_rfl) (by kernel_rfl) (by kernel_rfl) (by kernel_rfl) (fun _ _ _ h => h) (by kernel_rfl) (fun w hw => by (obtain ⟨k0, -⟩ := hw; go_simp)) hH ?_
              simp only [List.setIfInBounds_toArray, List.set_cons_zero, List.set_cons_succ]
              refine takeH 12 105 (entV 1 ⟨#[46, 46]⟩) rfl (by kernel_rfl) (by kernel_rfl) (by kernel_rfl) (by kernel_rfl) (fun _ _ _ h => h) (by kernel_rfl) (fun w hw => by exact Ent.exec_load26 (x := .tmp 8) rfl (by kernel_rfl) (Ent.load26_run hw.2)) hH ?_
              simp only [List.setIfInBounds_toArray, List.set_cons_zero, List.set_cons_succ]
              refine stepH_two 11 13 (by kernel_rfl) ?_ ?_
              · refine opH_run 11 104 (v) Y2.drew rfl (by kernel_rfl) (by kernel_rfl) (by (have k1 : Y2.drew.cell? ⟨gd, 0, none⟩ = some (v) := hdv); go_simp) hH ?_
                simp only [List.setIfInBounds_toArray, List.set_cons_zero, List.set_cons_succ]
                refine stepH_run 13 106 (.slice (some ⟨Y2.drew.heap.size, 0, none⟩) 1 1) (Y2.drew.alloc (.cells (Ent.entC 1 ⟨#[46, 46]⟩).toArray 84)) rfl (by kernel_rfl) (by kernel_rfl) (by kernel_rfl) (Ent.exec_one26 (x := .tmp 105) rfl (by kernel_rfl)) ⟨HA9.out.2.1, HA9.out.2.2⟩ ?_
                simp only [List.setIfInBounds_toArray, List.set_cons_zero, List.set_cons_succ]
                refine stepH_run 14 107 (.slice (some ⟨gv, 0, none⟩) (1 + 1) cv) W9 rfl (by kernel_rfl) (by kernel_rfl) (by kernel_rfl) (Din.exec_append (s := .tmp 104) (x := .tmp 106) rfl (by kernel_rfl) (by kernel_rfl) HR9.out) ⟨HS9.out.1, HS9.out.2.1⟩ ?_
                simp only [List.setIfInBounds_toArray, List.set_cons_zero, List.set_cons_succ]
                refine takeH 15 108 (.pointer (some ⟨gd, 0, none⟩)) rfl (by kernel_rfl) (by kernel_rfl) (by kernel_rfl) (by kernel_rfl) (fun _ _ _ h => h) (by kernel_rfl) (fun w hw => by (obtain ⟨k0, -⟩ := hw; go_simp)) ⟨HS9.out.1, HS9.out.2.1⟩ ?_
                simp only [List.setIfInBounds_toArray, List.set_cons_zero, List.set_cons_succ]
                refine stepH_one 16 (by kernel_rfl) ?_
                refine opH_store 16 (W9.setCell ⟨gd, 0, none⟩ (.slice (some ⟨gv, 0, none⟩) (1 + 1) cv)) rfl (by kernel_rfl) (by kernel_rfl) (exec_store (p := .tmp 108) (x := .tmp 107) rfl (by kernel_rfl) (by kernel_rfl) HST9.out) ⟨HS9.out.2.2.1, HS9.out.2.2.2.1⟩ ?_
                refine wpAnyH_done (by kernel_rfl) ?_ _
                clear hH hcd hdv
                go_wp2
                go_roundw
                case rel => exact ⟨1 + 1, _, by omega, by go_num, HES9.out, HS9.out.2.2.2.2⟩
                case measure => simp [intOf]
              · refine opH_run 13 106 (.slice (some ⟨Y2.drew.heap.size, 0, none⟩) 1 1) (Y2.drew.alloc (.cells (Ent.entC 1 ⟨#[46, 46]⟩).toArray 84)) rfl (by kernel_rfl) (by kernel_rfl) (Ent.exec_one26 (x := .tmp 105) rfl (by kernel_rfl)) ⟨HA9.out.2.1, HA9.out.2.2⟩ ?_
                simp only [List.setIfInBounds_toArray, List.set_cons_zero, List.set_cons_succ]
                refine stepH_run 11 104 (v) (Y2.drew.alloc (.cells (Ent.entC 1 ⟨#[46, 46]⟩).toArray 84)) rfl (by kernel_rfl) (by kernel_rfl) (by kernel_rfl) (by have k1 := HA9.out.1; revert k1; generalize (Y2.drew.alloc (.cells (Ent.entC 1 ⟨#[46, 46]⟩).toArray 84)) = WB; intro k1; go_simp) ⟨HA9.out.2.1, HA9.out.2.2⟩ ?_
                simp only [List.setIfInBounds_toArray, List.set_cons_zero, List.set_cons_succ]
                refine stepH_run 14 107 (.slice (some ⟨gv, 0, none⟩) (1 + 1) cv) W9 rfl (by kernel_rfl) (by kernel_rfl) (by kernel_rfl) (Din.exec_append (s := .tmp 104) (x := .tmp 106) rfl (by kernel_rfl) (by kernel_rfl) HR9.out) ⟨HS9.out.1, HS9.out.2.1⟩ ?_
                simp only [List.setIfInBounds_toArray, List.set_cons_zero, List.set_cons_succ]
                refine takeH 15 108 (.pointer (some ⟨gd, 0, none⟩)) rfl (by kernel_rfl) (by kernel_rfl) (by kernel_rfl) (by kernel_rfl) (fun _ _ _ h => h) (by kernel_rfl) (fun w hw => by (obtain ⟨k0, -⟩ := hw; go_simp)) ⟨HS9.out.1, HS9.out.2.1⟩ ?_
                simp only [List.setIfInBounds_toArray, List.set_cons_zero, List.set_cons_succ]
                refine stepH_one 16 (by kernel_rfl) ?_
                refine opH_store 16 (W9.setCell ⟨gd, 0, none⟩ (.slice (some ⟨gv, 0, none⟩) (1 + 1) cv)) rfl (by kernel_rfl) (by kernel_rfl) (exec_store (p := .tmp 108) (x := .tmp 107) rfl (by kernel_rfl) (by kernel_rfl) HST9.out) ⟨HS9.out.2.2.1, HS9.out.2.2.2.1⟩ ?_
                refine wpAnyH_done (by kernel_rfl) ?_ _
                clear hH hcd hdv
                go_wp2
                go_roundw
                case rel => exact ⟨1 + 1, _, by omega, by go_num, HES9.out, HS9.out.2.2.2.2⟩
                case measure => simp [intOf]
            · have hxe := free_at m (by omega)
              have HXE := Hid.mk hxe
              have hn1 := HNY.out
              have hr1 := HRY.out
              have hl1 := HLD.out
              rw [HX0.out, hxe] at hn1 hr1 hl1
              have HN1 := Hid.mk hn1
              have HR1 := Hid.mk hr1
              have HL1 := Hid.mk hl1
              clear hxe hn1 hr1 hl1 HNY HRY HLD HX0
              obtain ⟨ao, cm, hv, hea, -⟩ := Ent.owns_EAt HE2.out.row
              obtain ⟨ae, e, -⟩ := hea.2 (by omega)
              subst e hv
              have HSF := Hid.mk (HST.out Y1 gd cd ae m cm (by omega) HE2.out.dr hea)
              clear hea
              have hm0' : ¬ (m : Int) = 0 := by omega
              have hm1' : ¬ (m : Int) = 1 := by omega
              go_wp2_with (first
                | (refine Ent.wpL_loadat (.tmp 63) rfl rfl _ 0 noS rfl HL1.out ?_; simp only [Act.put, List.setIfInBounds_toArray, List.set_cons_zero, List.set_cons_succ])
                | (refine Ent.wpL_new rfl rfl _ X1 HRX.out ?_; simp only [Act.put, List.setIfInBounds_toArray, List.set_cons_zero, List.set_cons_succ])
                | (refine Ent.wpL_store (.tmp 8) (.tmp 64) rfl rfl _ _ Y1 rfl rfl HR1.out ?_; simp only [Act.put])
                | (refine Ent.wpL_load (.tmp 8) rfl rfl be 0 noS rfl HN1.out ?_; simp only [Act.put, List.setIfInBounds_toArray, List.set_cons_zero, List.set_cons_succ])
                | (go_at_call 83; refine HSF.out.mono ?_; rintro e w3 ⟨rfl, hB3⟩; obtain ⟨Y2, hr2, hn2, ho2⟩ := Ent.store26_run (j := 0) (t := noS) (HN1.out.below hB3 HN1.out.lt); have HR2 := Hid.mk hr2; have HN2 := Hid.mk hn2; have HE3 := Hid.mk ((HE2.out.new hB3).other be ho2 HBE.out HWB.out HOV.out); have HS3 : Hid (B ≤ Y2.heap.size) := Hid.mk (Nat.le_trans HS2.out (Nat.le_trans hB3.size ho2.size)); clear hr2 hn2 ho2 hB3)
                | (refine Ent.wpL_build rfl rfl ?_; simp only [Act.put, List.setIfInBounds_toArray, List.set_cons_zero, List.set_cons_succ])
                | (refine Ent.wpL_store (.tmp 8) (.tmp 71) rfl rfl _ _ Y2 rfl rfl HR2.out ?_; simp only [Act.put]))
              obtain ⟨gv, cv, W9, hr9, hd9, hf9, hg9, hes9⟩ := HE3.out.drew.step hlt 0 noS HXE.out HS3.out
              have hdv := HE3.out.dr.dir.1
              have hcd := HE3.out.cells.1
              have HA9 : Hid (((Y2.drew.alloc (.cells (Ent.entC 0 noS).toArray 84)).cell? ⟨gd, 0, none⟩ = some (.slice (some ae) m cm)) ∧ ((Y2.drew.alloc (.cells (Ent.entC 0 noS).toArray 84)).cell? ⟨t, 13, none⟩ = some (.slice (some ⟨gd, 0, none⟩) 1 cd)) ∧ Ent.NAt be 0 noS (Y2.drew.alloc (.cells (Ent.entC 0 noS).toArray 84))) := Hid.mk (by
                have hB9 : Below Y2.drew.heap.size Y2.drew (Y2.drew.alloc (.cells (Ent.entC 0 noS).toArray 84)) := (Below.refl _ _).alloc (Nat.le_refl _) _
                have he9 := HE3.out.drew.new hB9
                have hn9 : Ent.NAt be 0 noS Y2.drew := HN2.out
                exact ⟨he9.dr.dir.1, he9.cells.1, hn9.below hB9 HN2.out.lt⟩)
              have HS9 : Hid (W9.cell? ⟨t, 13, none⟩ = some (.slice (some ⟨gd, 0, none⟩) 1 cd) ∧ Ent.NAt be 0 noS W9 ∧ (W9.setCell ⟨gd, 0, none⟩ (.slice (some ⟨gv, 0, none⟩) (m + 1) cv)).cell? ⟨t, 13, none⟩ = some (.slice (some ⟨gd, 0, none⟩) 1 cd) ∧ Ent.NAt be 0 noS (W9.setCell ⟨gd, 0, none⟩ (.slice (some ⟨gv, 0, none⟩) (m + 1) cv)) ∧ B ≤ (W9.setCell ⟨gd, 0, none⟩ (.slice (some ⟨gv, 0, none⟩) (m + 1) cv)).heap.size) := Hid.mk (by
                have hn9 : Ent.NAt be 0 noS Y2.drew := HN2.out
                have hnW : Ent.NAt be 0 noS W9 := (hg9.block be HN2.out.lt (fun e => HOV.out be e.symm rfl)).trans hn9
                have htk := HE3.out.drew.dr.tn.tk
                have hpt := HE3.out.parts.2.2.2.2.2.1
                have htW : TkAt t (rootL I) (.slice (some ⟨gd, 0, none⟩) 1 cd) 1 (.slice (some ⟨gl, 0, none⟩) 1 c) W9 := (hg9.block t htk.lt (fun e => by have h1 := (HE3.out.row.lt t e.symm).1; omega)).trans htk
                have hsz9 : (W9.setCell ⟨gd, 0, none⟩ (.slice (some ⟨gv, 0, none⟩) (m + 1) cv)).heap.size = W9.heap.size := by simp [World.setCell]
                have hZs : Y2.drew.heap.size = Y2.heap.size := rfl
                have hgs := hg9.size
                have hS3 := HS3.out
                exact ⟨(tak_root htW).2.2.2.2.1, hnW, hes9.cells.1, (set_only W9 gd 0 _).block be hnW.lt (by have h1 := HE3.out.gB; have h2 := HBE.out; omega) |>.trans hnW, by omega⟩)
              have HR9 := Hid.mk hr9
              have HES9 := Hid.mk hes9
              have hst9 : (Instr.storeAt 39 (.pointer (some ⟨gd, 0, none⟩)) (.slice (some ⟨gv, 0, none⟩) (m + 1) cv)).run Tryz.prog W9 = .ok () (W9.setCell ⟨gd, 0, none⟩ (.slice (some ⟨gv, 0, none⟩) (m + 1) cv)) := by go_simp
              have HST9 := Hid.mk hst9
              clear hr9 hes9 hg9 hst9 hd9 hf9
              refine wp_region_held_drew (S := fun W => W.cell? ⟨t, 13, none⟩ = some (.slice (some ⟨gd, 0, none⟩) 1 cd) ∧ Ent.NAt be 0 noS W) (by kernel_rfl) ⟨hcd, HN2.out⟩ (fun hH => ?_)
              change wpAnyH Tryz.prog Region.Mode.any _ _ _ 17 _ _ _
              refine takeH 0 93 (.pointer (some ⟨t, 0, none⟩)) rfl (by kernel_rfl) (by kernel_rfl) (by kernel_rfl) (by kernel_rfl) (fun _ _ _ h => h) (by kernel_rfl) (fun w hw => by kernel_rfl) hH ?_
              simp only [List.setIfInBounds_toArray, List.set_cons_zero, List.set_cons_succ]
              refine takeH 1 94 (.pointer (some ⟨t, 0, none⟩)) rfl (by kernel_rfl) (by kernel_rfl) (by kernel_rfl) (by kernel_rfl) (fun _ _ _ h => h) (by kernel_rfl) (fun w hw => by kernel_rfl) hH ?_
              simp only [List.setIfInBounds_toArray, List.set_cons_zero, List.set_cons_succ]
              refine takeH 2 95 (.pointer (some ⟨t, 13, none⟩)) rfl (by kernel_rfl) (by kernel_rfl) (by kernel_rfl) (by kernel_rfl) (fun _ _ _ h => h) (by kernel_rfl) (fun w hw => by (obtain ⟨k0, -⟩ := hw; go_simp)) hH ?_
              simp only [List.setIfInBounds_toArray, List.set_cons_zero, List.set_cons_succ]
              refine takeH 3 96 (.slice (some ⟨gd, 0, none⟩) 1 cd) rfl (by kernel_rfl) (by kernel_rfl) (by kernel_rfl) (by kernel_rfl) (fun _ _ _ h => h) (by kernel_rfl) (fun w hw => by (obtain ⟨k0, -⟩ := hw; go_simp)) hH ?_
              simp only [List.setIfInBounds_toArray, List.set_cons_zero, List.set_cons_succ]
              refine takeH 4 97 (.int .i64 0) rfl (by kernel_rfl) (by kernel_rfl) (by kernel_rfl) (by kernel_rfl) (fun _ _ _ h => h) (by kernel_rfl) (fun w hw => by kernel_rfl) hH ?_
              simp only [List.setIfInBounds_toArray, List.set_cons_zero, List.set_cons_succ]
              refine takeH 5 98 (.pointer (some ⟨t, 0, none⟩)) rfl (by kernel_rfl) (by kernel_rfl) (by kernel_rfl) (by kernel_rfl) (fun _ _ _ h => h) (by kernel_rfl) (fun w hw => by kernel_rfl) hH ?_
              simp only [List.setIfInBounds_toArray, List.set_cons_zero, List.set_cons_succ]
              refine takeH 6 99 (.pointer (some ⟨t, 0, none⟩)) rfl (by kernel_rfl) (by kernel_rfl) (by kernel_rfl) (by kernel_rfl) (fun _ _ _ h => h) (by kernel_rfl) (fun w hw => by kernel_rfl) hH ?_
              simp only [List.setIfInBounds_toArray, List.set_cons_zero, List.set_cons_succ]
              refine takeH 7 100 (.pointer (some ⟨t, 13, none⟩)) rfl (by kernel_rfl) (by kernel_rfl) (by kernel_rfl) (by kernel_rfl) (fun _ _ _ h => h) (by kernel_rfl) (fun w hw => by (obtain ⟨k0, -⟩ := hw; go_simp)) hH ?_
              simp only [List.setIfInBounds_toArray, List.set_cons_zero, List.set_cons_succ]
              refine takeH 8 101 (.slice (some ⟨gd, 0, none⟩) 1 cd) rfl (by kernel_rfl) (by kernel_rfl) (by kernel_rfl) (by kernel_rfl) (fun _ _ _ h => h) (by kernel_rfl) (fun w hw => by (obtain ⟨k0, -⟩ := hw; go_simp)) hH ?_
              simp only [List.setIfInBounds_toArray, List.set_cons_zero, List.set_cons_succ]
              refine takeH 9 102 (.int .i64 0) rfl (by kernel_rfl) (by kernel_rfl) (by kernel_rfl) (by kernel_rfl) (fun _ _ _ h => h) (by kernel_rfl) (fun w hw => by kernel_rfl) hH ?_
              simp only [List.setIfInBounds_toArray, List.set_cons_zero, List.set_cons_succ]
              refine takeH 10 103 (.pointer (some ⟨gd, 0, none⟩)) rfl (by kernel_rfl) (by kernel_rfl) (by kernel_rfl) (by kernel_rfl) (fun _ _ _ h => h) (by kernel_rfl) (fun w hw => by (obtain ⟨k0, -⟩ := hw; go_simp)) hH ?_
              simp only [List.setIfInBounds_toArray, List.set_cons_zero, List.set_cons_succ]
              refine takeH 12 105 (entV 0 noS) rfl (by kernel_rfl) (by kernel_rfl) (by kernel_rfl) (by kernel_rfl) (fun _ _ _ h => h) (by kernel_rfl) (fun w hw => by exact Ent.exec_load26 (x := .tmp 8) rfl (by kernel_rfl) (Ent.load26_run hw.2)) hH ?_
              simp only [List.setIfInBounds_toArray, List.set_cons_zero, List.set_cons_succ]
              refine stepH_two 11 13 (by kernel_rfl) ?_ ?_
              · refine opH_run 11 104 (.slice (some ae) m cm) Y2.drew rfl (by kernel_rfl) (by kernel_rfl) (by (have k1 : Y2.drew.cell? ⟨gd, 0, none⟩ = some (.slice (some ae) m cm) := hdv); go_simp) hH ?_
                simp only [List.setIfInBounds_toArray, List.set_cons_zero, List.set_cons_succ]
                refine stepH_run 13 106 (.slice (some ⟨Y2.drew.heap.size, 0, none⟩) 1 1) (Y2.drew.alloc (.cells (Ent.entC 0 noS).toArray 84)) rfl (by kernel_rfl) (by kernel_rfl) (by kernel_rfl) (Ent.exec_one26 (x := .tmp 105) rfl (by kernel_rfl)) ⟨HA9.out.2.1, HA9.out.2.2⟩ ?_
                simp only [List.setIfInBounds_toArray, List.set_cons_zero, List.set_cons_succ]
                refine stepH_run 14 107 (.slice (some ⟨gv, 0, none⟩) (m + 1) cv) W9 rfl (by kernel_rfl) (by kernel_rfl) (by kernel_rfl) (Din.exec_append (s := .tmp 104) (x := .tmp 106) rfl (by kernel_rfl) (by kernel_rfl) HR9.out) ⟨HS9.out.1, HS9.out.2.1⟩ ?_
                simp only [List.setIfInBounds_toArray, List.set_cons_zero, List.set_cons_succ]
                refine takeH 15 108 (.pointer (some ⟨gd, 0, none⟩)) rfl (by kernel_rfl) (by kernel_rfl) (by kernel_rfl) (by kernel_rfl) (fun _ _ _ h => h) (by kernel_rfl) (fun w hw => by (obtain ⟨k0, -⟩ := hw; go_simp)) ⟨HS9.out.1, HS9.out.2.1⟩ ?_
                simp only [List.setIfInBounds_toArray, List.set_cons_zero, List.set_cons_succ]
                refine stepH_one 16 (by kernel_rfl) ?_
                refine opH_store 16 (W9.setCell ⟨gd, 0, none⟩ (.slice (some ⟨gv, 0, none⟩) (m + 1) cv)) rfl (by kernel_rfl) (by kernel_rfl) (exec_store (p := .tmp 108) (x := .tmp 107) rfl (by kernel_rfl) (by kernel_rfl) HST9.out) ⟨HS9.out.2.2.1, HS9.out.2.2.2.1⟩ ?_
                refine wpAnyH_done (by kernel_rfl) ?_ _
                clear hH hcd hdv
                go_wp2
                go_roundw
                case rel => exact ⟨m + 1, _, by omega, by go_num, HES9.out, HS9.out.2.2.2.2⟩
                case measure => simp [intOf]; omega
              · refine opH_run 13 106 (.slice (some ⟨Y2.drew.heap.size, 0, none⟩) 1 1) (Y2.drew.alloc (.cells (Ent.entC 0 noS).toArray 84)) rfl (by kernel_rfl) (by kernel_rfl) (Ent.exec_one26 (x := .tmp 105) rfl (by kernel_rfl)) ⟨HA9.out.2.1, HA9.out.2.2⟩ ?_
                simp only [List.setIfInBounds_toArray, List.set_cons_zero, List.set_cons_succ]
                refine stepH_run 11 104 (.slice (some ae) m cm) (Y2.drew.alloc (.cells (Ent.entC 0 noS).toArray 84)) rfl (by kernel_rfl) (by kernel_rfl) (by kernel_rfl) (by have k1 := HA9.out.1; revert k1; generalize (Y2.drew.alloc (.cells (Ent.entC 0 noS).toArray 84)) = WB; intro k1; go_simp) ⟨HA9.out.2.1, HA9.out.2.2⟩ ?_
                simp only [List.setIfInBounds_toArray, List.set_cons_zero, List.set_cons_succ]
                refine stepH_run 14 107 (.slice (some ⟨gv, 0, none⟩) (m + 1) cv) W9 rfl (by kernel_rfl) (by kernel_rfl) (by kernel_rfl) (Din.exec_append (s := .tmp 104) (x := .tmp 106) rfl (by kernel_rfl) (by kernel_rfl) HR9.out) ⟨HS9.out.1, HS9.out.2.1⟩ ?_
                simp only [List.setIfInBounds_toArray, List.set_cons_zero, List.set_cons_succ]
                refine takeH 15 108 (.pointer (some ⟨gd, 0, none⟩)) rfl (by kernel_rfl) (by kernel_rfl) (by kernel_rfl) (by kernel_rfl) (fun _ _ _ h => h) (by kernel_rfl) (fun w hw => by (obtain ⟨k0, -⟩ := hw; go_simp)) ⟨HS9.out.1, HS9.out.2.1⟩ ?_
                simp only [List.setIfInBounds_toArray, List.set_cons_zero, List.set_cons_succ]
                refine stepH_one 16 (by kernel_rfl) ?_
                refine opH_store 16 (W9.setCell ⟨gd, 0, none⟩ (.slice (some ⟨gv, 0, none⟩) (m + 1) cv)) rfl (by kernel_rfl) (by kernel_rfl) (exec_store (p := .tmp 108) (x := .tmp 107) rfl (by kernel_rfl) (by kernel_rfl) HST9.out) ⟨HS9.out.2.2.1, HS9.out.2.2.2.1⟩ ?_
                refine wpAnyH_done (by kernel_rfl) ?_ _
                clear hH hcd hdv
                go_wp2
                go_roundw
                case rel => exact ⟨m + 1, _, by omega, by go_num, HES9.out, HS9.out.2.2.2.2⟩
                case measure => simp [intOf]; omega
        · obtain rfl : m = 32 := by omega
          go_wp2
          go_roundw
          case rel =>
            obtain ⟨ao, cm, rfl, hea, hge, -⟩ := Ent.owns_EAt HE1.out.row
            obtain ⟨ae, e, -⟩ := hea.2 (by omega)
            subst e
            exact .inr ⟨by go_num, gd, cd, ae, cm, HE1.out.dr, hea, HE1.out.only⟩
          case measure => simp [intOf]
    · have HDR := Hid.mk hdr
      have HEA := Hid.mk hea
      have HO := Hid.mk hon
      obtain ⟨r0, r2, r3, r4, s1, c4, c5, c6, l0, o0⟩ := tn_cells hdr.tn hnt2
      clear hdr hea hon
      go_wp2
      go_end0
      exact ⟨rfl, gd, cd, ae, cm, HDR.out, HEA.out, HO.out⟩
end Mk
end Go.Proofs.YtejnmpnioeamhaaGreat
