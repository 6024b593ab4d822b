/-
  A block is looked for, and read where it is not kept: add, find.
-/
import Derived.Test.YtmbhjheoomlggaaCaShrink
namespace Go.Proofs.Ytmbhjheoomlggaa
open Go Go.Proofs Go.RowKit Go.Shelf
open Go.ChangeMaps (setBlock)
section
variable {F : Nat → Prop} {w : World} {c m : Nat} {size reads : Int} {v0 v1 v2 v5 v6 : Value}
set_option maxRecDepth 100000 in
set_option maxHeartbeats 4000000 in
theorem add_any (L : List Pl) (x : Pl) (h : LsAt w c v0 v1 v2 v5 v6 L) (hp : x.p = w.heap.size) :
    Calls Try.prog 40 #[.pointer (some ⟨c, 3, none⟩), ptV x.h] w fun e w' => e = .returned (ptV x.p) ∧ LinkP (w.alloc (.cells #[ptV x.h, niV, niV] 67)) c v0 v1 v2 v5 v6 L x (.returned (.tuple #[])) w' := by
  have hb : Below w.heap.size w (w.alloc (.cells #[ptV x.h, niV, niV] 67)) := (Below.refl _ w).alloc (Nat.le_refl _) _
  have hlt : ∀ y ∈ L, y.p < w.heap.size := fun y hy => by
    obtain ⟨u, v, e⟩ := h.seg.mem hy
    exact lt_of_block e
  have h1 : LsAt (w.alloc (.cells #[ptV x.h, niV, niV] 67)) c v0 v1 v2 v5 v6 L := ⟨(hb.block c (lt_of_block h.blk)).trans h.blk, h.seg.keep (fun y hy => hb.block _ (hlt y hy)), h.nd⟩
  have HL := Hid.mk (link_any L x niV h1 (by rw [hp]; exact blk_new w _) (fun y hy => by have := hlt y hy; omega) rfl)
  rw [hp] at HL
  rw [hp]
  clear h1 h hlt hb
  go_enter Try.func40, Try.ntmps40
  go_wp2_with (go_at_call 42; refine HL.out.mono ?_; rintro e w2 ⟨rfl, hl2⟩; have HL2 := Hid.mk hl2; clear hl2)
  go_ret
  exact ⟨rfl, rfl, HL2.out⟩
theorem find_kept_look {d : Value} (A B : List Pl) (x : Pl) (h : CaAt F w c m d size reads (A ++ x :: B)) :
    w.cell? ⟨c, 5, none⟩ = some (.map (some m)) ∧ (Instr.lookup 56 (.map (some m)) (.int .i64 x.num) false).run Try.prog w = .ok (ptV x.p) w := by
  refine ⟨(ca_cells h.ls.blk).2.2.2.1, ?_⟩
  have := h.map.look keyed3 Try.underlying56 (zero_pl w) (key_int (h.wf x (by simp)))
  rw [keyF_int, find_at h.nn] at this
  exact this
theorem find_none_look {d : Value} (L : List Pl) (n : Int) (hw : (Lit.int .i64 n).wf = true) (hn : ∀ y ∈ L, y.num ≠ n) (h : CaAt F w c m d size reads L) :
    w.cell? ⟨c, 5, none⟩ = some (.map (some m)) ∧ (Instr.lookup 56 (.map (some m)) (.int .i64 n) false).run Try.prog w = .ok niV w := by
  refine ⟨(ca_cells h.ls.blk).2.2.2.1, ?_⟩
  have := h.map.look keyed3 Try.underlying56 (zero_pl w) (key_int hw)
  rw [keyF_int, List.find?_eq_none.2 (fun y hy => by simpa using hn y hy)] at this
  exact this
set_option maxRecDepth 100000 in
set_option maxHeartbeats 4000000 in
theorem find_kept {d : Value} (A B : List Pl) (x : Pl) (h : CaAt F w c m d size reads (A ++ x :: B)) :
    Calls Try.prog 28 #[ptV c, .int .i64 x.num] w fun e w' => e = .returned (ptV x.p) ∧ w' = w := by
  obtain ⟨c5, hlk⟩ := find_kept_look A B x h
  clear h
  go_enter Try.func28, Try.ntmps28
  go_wp2
  go_ret
  exact ⟨rfl, rfl⟩
set_option maxRecDepth 100000 in
set_option maxHeartbeats 4000000 in
theorem find_nil (L : List Pl) (n : Int) (hw : (Lit.int .i64 n).wf = true) (hn : ∀ y ∈ L, y.num ≠ n) (h : CaAt F w c m niV size reads L) :
    Calls Try.prog 28 #[ptV c, .int .i64 n] w fun e w' => e = .returned niV ∧ w' = w := by
  obtain ⟨c5, hlk⟩ := find_none_look L n hw hn h
  have c0 := (ca_cells h.ls.blk).1
  clear h hn hw
  go_enter Try.func28, Try.ntmps28
  go_wp2
  go_ret
  exact ⟨rfl, rfl⟩
/-- The block of a disk. -/
def blkL (s : Dk.DS) (n : Int) : List Int := (s.img.drop (1024 * n.toNat)).take 1024
theorem CaAt.reads' {d : Value} {L : List Pl} (h : CaAt F w c m d size reads L) (r : Int) : CaAt F (w.setCell ⟨c, 2, none⟩ (.int .i64 r)) c m d size r L ∧ Only F w (w.setCell ⟨c, 2, none⟩ (.int .i64 r)) := by
  have ho : ∀ k, k ≠ c → (w.setCell ⟨c, 2, none⟩ (.int .i64 r)).heap[k]? = w.heap[k]? := fun k hk => set_other _ _ _ _ hk
  exact ⟨⟨h.fc, h.fm, ⟨set_c2 h.ls.blk, h.ls.seg.keep (fun x hx => ho _ (h.ls.ne hx)), h.ls.nd⟩, h.map.kept (ho m h.m_ne.1), fun x hx => (h.held x hx).keep (ho _ (h.kind hx hx).1) (ho _ (h.kind hx hx).2.1), h.inF, h.nh, h.nn, h.wf⟩,
    (Only.refl F w).setCell (p := ⟨c, 2, none⟩) (.inl h.fc) _⟩
set_option maxRecDepth 100000 in
set_option maxHeartbeats 4000000 in
theorem find_no (Fd : Nat → Prop) (dd : Nat) (s : Dk.DS) (L : List Pl) (n : Int) (hw : (Lit.int .i64 n).wf = true) (hn : ∀ y ∈ L, y.num ≠ n) (h : CaAt F w c m (ptV dd) size reads L) (hd : Dk.DiskAt Fd w dd s) (hdis : ∀ k, F k → ¬ Fd k) (hi : s.img.length ≤ 20480000)
    (hr0 : 0 ≤ reads) (hr1 : reads ≤ 1000000) (hno : (Dk.hasB s n && !s.dead) = false) :
    Calls Try.prog 28 #[ptV c, .int .i64 n] w fun e w' => e = .returned niV ∧ CaAt F w' c m (ptV dd) size (reads + 1) L ∧ Only F w w' := by
  obtain ⟨c5, hlk⟩ := find_none_look L n hw hn h
  obtain ⟨c0, _, c2, _, _, f2, _⟩ := ca_cells h.ls.blk
  obtain ⟨g1, g2⟩ := h.reads' (reads + 1)
  have hd1 := hd.only g2 (fun k _ hk hf => hdis k hf hk)
  have HRD := Hid.mk (Dk.read_any Fd _ dd s hd1 hi n)
  rw [hno] at HRD
  have HG := Hid.mk (And.intro g1 g2)
  clear h hn hw hd hd1 g1 g2 hno
  go_enter Try.func28, Try.ntmps28
  go_wp2_with (go_at_call 27; refine HRD.out.mono ?_; rintro e w2 ⟨xo, xn, xc, rfl, hB, _, _, _⟩; have HB := Hid.mk hB; clear hB)
  go_ret
  exact ⟨rfl, HG.out.1.below HB.out, HG.out.2.trans (Only.of_new (fun _ => False) HB.out) (fun _ e => e.elim)⟩
end
end Go.Proofs.Ytmbhjheoomlggaa
