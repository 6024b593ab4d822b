/-
  A repair in memory; what keep does.
-/
import Derived.Test.YtejnmpnioeamhaaGreatWhCheck
namespace Go.Proofs.YtejnmpnioeamhaaGreat
open Go Go.Proofs Go.RowKit Go.Shelf
namespace Mk
open Sup (superL headL maskL nI nD bD)
open Din (inoL fineL inoV NAt)
open Ent (blockL okB EAt Ey entV noS noE)
/-- Where a repair's parts lie: disk, image, the repair itself, claims, inodes. -/
structure Rp where
  d : Nat
  g : Nat
  r : Nat
  cb : Nat
  tb : Nat
/-- None lies where another one does. -/
structure Rp.Apart (p : Rp) : Prop where
  dr : p.d ≠ p.r
  dc : p.d ≠ p.cb
  dt : p.d ≠ p.tb
  gr : p.g ≠ p.r
  gc : p.g ≠ p.cb
  gt : p.g ≠ p.tb
  rc : p.r ≠ p.cb
  rt : p.r ≠ p.tb
  ct : p.cb ≠ p.tb
/-- The cells of a repair. -/
def repC (p : Rp) (nb nt : Nat) (ord : Value) : List Value := [.pointer (some ⟨p.d, 0, none⟩), .slice (some ⟨p.cb, 0, none⟩) nb nb, .slice (some ⟨p.tb, 0, none⟩) nt nt, ord, .bool false]
/-- A repair lies in memory. -/
structure RpAt (p : Rp) (n nb nt : Nat) (G I D : Int) (xs : List Int) (ord : Value) (cl tl : List Value) (W : World) : Prop where
  dk : DkAt p.d p.g n G I D xs W
  rep : W.heap[p.r]? = some (.cells (repC p nb nt ord).toArray 67 (0, 0))
  cla : W.heap[p.cb]? = some (.cells cl.toArray 4 (0, 0))
  tab : W.heap[p.tb]? = some (.cells tl.toArray 68 (0, 0))
  ap : p.Apart
theorem RpAt.new {p : Rp} {n nb nt : Nat} {G I D : Int} {xs : List Int} {ord : Value} {cl tl : List Value} {W W' : World} (h : RpAt p n nb nt G I D xs ord cl tl W) (hB : Below W.heap.size W W') : RpAt p n nb nt G I D xs ord cl tl W' :=
  ⟨h.dk.new hB, (hB.block _ (lt_of_block h.rep)).trans h.rep, (hB.block _ (lt_of_block h.cla)).trans h.cla, (hB.block _ (lt_of_block h.tab)).trans h.tab, h.ap⟩
/-- A block that is none of its parts may turn. -/
theorem RpAt.only {p : Rp} {n nb nt : Nat} {G I D : Int} {xs : List Int} {ord : Value} {cl tl : List Value} {S : Nat → Prop} {W W' : World} (h : RpAt p n nb nt G I D xs ord cl tl W) (ho : Only S W W') (h1 : ¬ S p.d) (h2 : ¬ S p.g) (h3 : ¬ S p.r) (h4 : ¬ S p.cb) (h5 : ¬ S p.tb) : RpAt p n nb nt G I D xs ord cl tl W' :=
  ⟨⟨(ho.block _ h.dk.lt h1).trans h.dk.dk, (ho.block _ h.dk.row.lt h2).trans h.dk.row⟩, (ho.block _ (lt_of_block h.rep) h3).trans h.rep, (ho.block _ (lt_of_block h.cla) h4).trans h.cla, (ho.block _ (lt_of_block h.tab) h5).trans h.tab, h.ap⟩
theorem set_only (W : World) (b i : Nat) (v : Value) : Only (fun k => k = b) W (W.setCell ⟨b, i, none⟩ v) := (Only.refl (fun k => k = b) W).setCell (p := ⟨b, i, none⟩) (.inl rfl) _
theorem set_cells {W : World} {b i : Nat} {cs : List Value} {t : TypeId} (h : W.heap[b]? = some (.cells cs.toArray t (0, 0))) (v : Value) : (W.setCell ⟨b, i, none⟩ v).heap[b]? = some (.cells (cs.set i v).toArray t (0, 0)) := by
  rw [blk_set h]
  simp
theorem RpAt.claim {p : Rp} {n nb nt : Nat} {G I D : Int} {xs : List Int} {ord : Value} {cl tl : List Value} {W : World} (h : RpAt p n nb nt G I D xs ord cl tl W) (i : Nat) (v : Value) : RpAt p n nb nt G I D xs ord (cl.set i v) tl (W.setCell ⟨p.cb, i, none⟩ v) := by
  have ho := set_only W p.cb i v
  exact ⟨⟨(ho.block _ h.dk.lt h.ap.dc).trans h.dk.dk, (ho.block _ h.dk.row.lt h.ap.gc).trans h.dk.row⟩, (ho.block _ (lt_of_block h.rep) h.ap.rc).trans h.rep, set_cells h.cla v, (ho.block _ (lt_of_block h.tab) h.ap.ct.symm).trans h.tab, h.ap⟩
theorem RpAt.table {p : Rp} {n nb nt : Nat} {G I D : Int} {xs : List Int} {ord : Value} {cl tl : List Value} {W : World} (h : RpAt p n nb nt G I D xs ord cl tl W) (i : Nat) (v : Value) : RpAt p n nb nt G I D xs ord cl (tl.set i v) (W.setCell ⟨p.tb, i, none⟩ v) := by
  have ho := set_only W p.tb i v
  exact ⟨⟨(ho.block _ h.dk.lt h.ap.dt).trans h.dk.dk, (ho.block _ h.dk.row.lt h.ap.gt).trans h.dk.row⟩, (ho.block _ (lt_of_block h.rep) h.ap.rt).trans h.rep, (ho.block _ (lt_of_block h.cla) h.ap.ct).trans h.cla, set_cells h.tab v, h.ap⟩
theorem RpAt.order {p : Rp} {n nb nt : Nat} {G I D : Int} {xs : List Int} {ord : Value} {cl tl : List Value} {W : World} (h : RpAt p n nb nt G I D xs ord cl tl W) (v : Value) : RpAt p n nb nt G I D xs v cl tl (W.setCell ⟨p.r, 3, none⟩ v) := by
  have ho := set_only W p.r 3 v
  exact ⟨⟨(ho.block _ h.dk.lt h.ap.dr).trans h.dk.dk, (ho.block _ h.dk.row.lt h.ap.gr).trans h.dk.row⟩, set_cells h.rep v, (ho.block _ (lt_of_block h.cla) h.ap.rc.symm).trans h.cla, (ho.block _ (lt_of_block h.tab) h.ap.rt.symm).trans h.tab, h.ap⟩
theorem RpAt.cells {p : Rp} {n nb nt : Nat} {G I D : Int} {xs : List Int} {ord : Value} {cl tl : List Value} {W : World} (h : RpAt p n nb nt G I D xs ord cl tl W) :
    W.cell? ⟨p.r, 0, none⟩ = some (.pointer (some ⟨p.d, 0, none⟩)) ∧ W.cell? ⟨p.r, 1, none⟩ = some (.slice (some ⟨p.cb, 0, none⟩) nb nb) ∧ W.cell? ⟨p.r, 2, none⟩ = some (.slice (some ⟨p.tb, 0, none⟩) nt nt) ∧ W.cell? ⟨p.r, 3, none⟩ = some ord ∧ W.cell? ⟨p.r, 4, none⟩ = some (.bool false) :=
  ⟨blk_cell h.rep 0, blk_cell h.rep 1, blk_cell h.rep 2, blk_cell h.rep 3, blk_cell h.rep 4⟩
set_option maxRecDepth 100000 in
set_option maxHeartbeats 1000000 in
theorem keep_no (w : World) (p : Rp) (n nb nt : Nat) (G I D : Int) (xs : List Int) (ord : Value) (cl tl : List Value) (h : RpAt p n nb nt G I D xs ord cl tl w) (f s : Int) :
    Calls Tryz.prog 82 #[.pointer (some ⟨p.r, 0, none⟩), .int .i64 0, .int .i64 f, .int .i64 s] w fun e w' => e = .returned (.bool false) ∧ Below w.heap.size w w' := by
  obtain ⟨r0, r1, r2, r3, r4⟩ := h.cells
  obtain ⟨k0, k1, k2, k3⟩ := h.dk.d4
  have HDO : Hid (∀ W : World, Calls Tryz.prog 46 #[geo G I D, .int .i64 0] W fun e w' => e = .returned (.tuple #[.int .i64 0, .bool false]) ∧ Below W.heap.size W w') := Hid.mk (fun W => by
    have h := rdataof_any W G I D 0
    rwa [(do_none G I D).1, (do_none G I D).2] at h)
  clear h
  generalize p.r = pr at *
  generalize p.d = pd at *
  generalize p.g = pg at *
  go_enter Tryz.func82, Tryz.ntmps82
  go_wp2_with (go_at_call 46; refine (HDO.out _).mono ?_; rintro e w1 ⟨rfl, hB⟩; have HB := Hid.mk hB; clear hB)
  go_ret
  exact ⟨rfl, HB.out⟩
set_option maxRecDepth 100000 in
set_option maxHeartbeats 1000000 in
theorem keep_root (w : World) (p : Rp) (n nb nt : Nat) (G I D : Int) (hg : good G I D = true) (hnb : 8 ≤ nb ∧ nb ≤ 8000) (xs : List Int) (ord : Value) (tl : List Value) (h : RpAt p n nb nt G I D xs ord (fals nb) tl w) :
    Calls Tryz.prog 82 #[.pointer (some ⟨p.r, 0, none⟩), .int .i64 (2 + I), .int .i64 0, .int .i64 1024] w fun e w' => e = .returned (.bool true) ∧ RpAt p n nb nt G I D xs ord ((fals nb).set 0 (.bool true)) tl w' ∧ Only (fun k => k = p.cb) w w' := by
  obtain ⟨r0, r1, r2, r3, r4⟩ := h.cells
  obtain ⟨k0, k1, k2, k3⟩ := h.dk.d4
  have HDO : Hid (∀ W : World, Calls Tryz.prog 46 #[geo G I D, .int .i64 (2 + I)] W fun e w' => e = .returned (.tuple #[.int .i64 0, .bool true]) ∧ Below W.heap.size W w') := Hid.mk (fun W => by
    have h := rdataof_any W G I D (2 + I)
    rwa [(do_root hg).1, (do_root hg).2] at h)
  have HRP := Hid.mk h
  obtain ⟨n8, n9⟩ := hnb
  have HST : Hid (∀ w1 : World, Below w.heap.size w w1 → (w1.cell? ⟨p.r, 0, none⟩ = some (.pointer (some ⟨p.d, 0, none⟩)) ∧ w1.cell? ⟨p.r, 1, none⟩ = some (.slice (some ⟨p.cb, 0, none⟩) nb nb) ∧ w1.cell? ⟨p.r, 2, none⟩ = some (.slice (some ⟨p.tb, 0, none⟩) nt nt) ∧ w1.cell? ⟨p.r, 3, none⟩ = some ord ∧ w1.cell? ⟨p.r, 4, none⟩ = some (.bool false)) ∧ w1.cell? ⟨p.cb, 0, none⟩ = some (.bool false) ∧ w1.frozen? ⟨p.cb, 0, none⟩ = false ∧ RpAt p n nb nt G I D xs ord ((fals nb).set 0 (.bool true)) tl (w1.setCell ⟨p.cb, 0, none⟩ (.bool true)) ∧ Only (fun k => k = p.cb) w (w1.setCell ⟨p.cb, 0, none⟩ (.bool true))) := Hid.mk (fun w1 hB => by
    have hrp := HRP.out.new hB
    refine ⟨hrp.cells, ?_, blk_free hrp.cla 0, hrp.claim 0 (.bool true), (Only.of_new (fun k => k = p.cb) hB).trans (set_only w1 p.cb 0 (.bool true)) (fun i e => .inl e)⟩
    rw [blk_cell hrp.cla, List.getElem?_toArray]
    exact fals_get _ _ (by omega))
  clear h hg HRP
  generalize p.r = pr at *
  generalize p.d = pd at *
  generalize p.cb = pcb at *
  generalize p.tb = ptb at *
  go_enter Tryz.func82, Tryz.ntmps82
  go_wp2_with (first
    | (go_at_call 46; refine (HDO.out _).mono ?_; rintro e w1 ⟨rfl, hB⟩; obtain ⟨⟨q0, q1, q2, q3, q4⟩, s0, s1, hrp, ho⟩ := HST.out w1 hB; have HRP1 := Hid.mk hrp; have HO := Hid.mk ho; clear hB hrp ho)
    | (go_at_call 77; refine (count_block _).mono ?_; rintro e w2 ⟨rfl, hw⟩; subst w2))
  go_ret
  exact ⟨rfl, HRP1.out, HO.out⟩
end Mk
end Go.Proofs.YtejnmpnioeamhaaGreat
