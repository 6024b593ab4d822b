/-
  Do's answers: write, done and without room.
-/
import Derived.Test.YtehaoeclnmelhacGreatTrLaw
import Derived.Test.YtehaoeclnmelhacGreatTrWrite
import Derived.Test.YtehaoeclnmelhacGreatTrDo3
import Derived.Test.YtehaoeclnmelhacGreatTrAlive
namespace Go.Proofs.YtehaoeclnmelhacGreat
open Go Go.Proofs Go.RowKit Go.Shelf Go.Sort

set_option maxRecDepth 100000 in
theorem lW_any (w : World) (s : ByteArray) (off : Int) (a : Addr) (dl dc : Nat) : Calls Tryz.prog 14 #[.string s, .int .i64 off, .slice (some a) dl dc] w fun x w' => x = .returned (callV 8 s ⟨#[]⟩ off 0 (.slice (some a) dl dc)) ∧ Below w.heap.size w w' := by
  go_enter Tryz.func14, Tryz.ntmps14
  go_wp2
  refine bodyPost_ret (v := callV 8 s ⟨#[]⟩ off 0 (.slice (some a) dl dc)) ?_ rfl ⟨rfl, ?_⟩
  · simp [results, Tryz.results14, go_sem, callV]
  · exact (Below.refl _ w).alloc (Nat.le_refl _) _
theorem doo_write (w : World) (t : Nat) (σ : Tr) (Ls : List Lay) (hT : TrAt w t σ Ls) (hOk : ∀ x ∈ σ.nodes, x.Ok) (s s2 : ByteArray) (off m0 : Int) (a : Addr) (dl dc : Nat) (xs : List Int) (hs : s.size ≤ 16777216) (j : Nat) (he : fileE σ.nodes (ofS s) = (some j, 0)) (hj : j < σ.nodes.length) (hjk : (nodeAt σ.nodes j).isDir = false) (h0 : 0 ≤ off) (hd0 : 0 < dl) (hd1 : dl ≤ 8192) (hdc : dl ≤ dc) (hdc2 : dc ≤ 9223372036854775807) (hob : off ≤ 67379200 - (dl : Int)) (hX : BAt w (some a) dl xs) (hap : a.block ∉ feet t Ls) (hpl : (nodeAt σ.nodes j).parts.length ≤ 70000) (hfit : fitsB σ.G σ.I σ.D σ.inodes σ.blocks 0 (fillN off xs.length (nodeAt σ.nodes j).parts) = true) :
    Calls Tryz.prog 9 #[ptrV t, callV 8 s s2 off m0 (.slice (some a) dl dc)] w fun e w' => e = .returned (.agg #[.int .i64 0, .slice none 0 0, .int .i64 0, .int .i64 0, .int .i64 0, .slice none 0 0, .int .i64 dl]) ∧ Step (fun k => k ∈ feet t Ls) w t w' (writeT σ off xs j) := by
  refine (do_write w t (writeT σ off xs j) Ls s s2 off m0 (some a) dl dc 0 0 0 0 dl (fun x y _ => x = .slice none 0 0 ∧ y = .slice none 0 0) (fun k hk => hT.lt k hk) (fun _ _ _ _ h _ => h) (Hid.mk (fun W hB _ => (write_main W t σ Ls (hT.below rfl hB) hOk 8 s s2 off m0 a dl dc xs hs j he hj hjk h0 hd0 hd1 hdc hdc2 hob (hX.only (Only.of_new (fun _ => False) hB) (fun _ _ _ h => h)) hap hpl hfit).mono (fun e w' hh => ⟨none, 0, 0, none, 0, 0, hh.1, hh.2, rfl, rfl⟩)))).mono ?_
  rintro e w' ⟨a1, n1, c1, a5, n5, c5, rfl, hst, h1, h2⟩
  cases h1; cases h2
  exact ⟨rfl, hst⟩
set_option maxRecDepth 100000 in
set_option maxHeartbeats 4000000 in
theorem write_full (w : World) (t : Nat) (σ : Tr) (Ls : List Lay) (hT : TrAt w t σ Ls) (hOk : ∀ x ∈ σ.nodes, x.Ok) (kk : Int) (s s2 : ByteArray) (off m0 : Int) (a : Addr) (dl dc : Nat) (hs : s.size ≤ 16777216) (j : Nat) (he : fileE σ.nodes (ofS s) = (some j, 0)) (hj : j < σ.nodes.length) (hjk : (nodeAt σ.nodes j).isDir = false) (h0 : 0 ≤ off) (hd0 : 0 < dl) (hd1 : dl ≤ 8192) (hob : off ≤ 67379200 - (dl : Int)) (hpl : (nodeAt σ.nodes j).parts.length ≤ 70000) (hfit : fitsB σ.G σ.I σ.D σ.inodes σ.blocks 0 (fillN off dl (nodeAt σ.nodes j).parts) = false) :
    Calls Tryz.prog 27 #[ptrV t, callV kk s s2 off m0 (.slice (some a) dl dc)] w fun e w' => e = .returned (errV 16) ∧ Below w.heap.size w w' := by
  obtain ⟨b, m, r, l, z, p, q1, q2, q3, q4, q5⟩ := hT.fileAt hj hjk
  have hok : (Nd.file l z p).Ok := hOk _ (List.mem_of_getElem? q2)
  have hpp : (nodeAt σ.nodes j).parts = p := by rw [q5]; rfl
  rw [hpp] at hfit hpl
  have HFI : Hid (∀ W, Below w.heap.size w W → _) := Hid.mk (fun W (hB : Below w.heap.size w W) => file_any W t σ Ls (hT.below rfl hB) s hs)
  rw [he] at HFI
  simp only [optV, ptrV, q4] at HFI
  have HFL : Hid (∀ W, Below w.heap.size w W → _) := Hid.mk (fun W (hB : Below w.heap.size w W) => filling_any W b m r l z p (q3.kept (fun q hq => hB.block q (NdAt.lt (loc := fun _ => 0) (L := .file b m r) (d := .file l z p) q3 q hq))) hok.1 hpl off dl h0 (by omega) (by omega) (by omega))
  have HTK : Hid (∀ W, Below w.heap.size w W → Calls Tryz.prog 38 #[ptrV t, .int .i64 0, .int .i64 (fillN off dl p)] W fun e w' => e = .returned (.int .i64 16) ∧ Below W.heap.size W w') := Hid.mk (fun W hB => by
    have hTW := hT.below rfl hB
    refine (take_any W t (locL Ls 0) σ.G σ.I σ.D σ.inodes σ.blocks hTW.tree 0 (fillN off dl p)).mono ?_
    rintro e w' (⟨h1, h2, h3⟩ | ⟨h1, _, _, _⟩)
    · exact ⟨h2, h3⟩
    · rw [hfit] at h1; cases h1)
  have c1 : ¬ off < 0 := by omega
  have c2 : ¬ (8192 : Int) < (dl : Int) := by omega
  have c3 : ¬ (67379200 : Int) - (dl : Int) < off := by omega
  have c4 : ¬ ((dl : Int) = 0) := by omega
  have c5 : ((dl : Int) == 0) = false := by simp; omega
  have c6 : IntKind.i64.wrap (67379200 - (dl : Int)) = 67379200 - (dl : Int) := by rw [IntKind.wrap_i64]; omega
  clear hT hOk he hj hjk hfit hpp hok q1 q2 q3 q5 hs hd0
  unfold callV ptrV at *
  go_enter Tryz.func27, Tryz.ntmps27
  go_wp2_with fail
  obtain ⟨X, hX⟩ : ∃ X, X = (w.alloc (.cells #[.int .i64 kk, .string s, .string s2, .int .i64 off, .int .i64 m0, .slice (some a) dl dc] 34)).alloc (.cells #[.int .i64 0, .slice none 0 0, .int .i64 0, .int .i64 0, .int .i64 0, .slice none 0 0, .int .i64 0] 31) := ⟨_, rfl⟩
  have hXB : Below w.heap.size w X := by rw [hX]; exact ((Below.refl _ w).alloc (Nat.le_refl _) _).alloc (by simp) _
  have hXs : X.heap.size = w.heap.size + 2 := by rw [hX]; simp
  have hX0 : X.heap[w.heap.size]? = some (.cells #[.int .i64 kk, .string s, .string s2, .int .i64 off, .int .i64 m0, .slice (some a) dl dc] 34 (0, 0)) := by rw [hX, Below.heap_alloc _ _ _ (by simp)]; exact blk_new w _
  have hX1 : X.heap[w.heap.size + 1]? = some (.cells #[.int .i64 0, .slice none 0 0, .int .i64 0, .int .i64 0, .int .i64 0, .slice none 0 0, .int .i64 0] 31 (0, 0)) := by
    rw [hX]
    have := blk_new (w.alloc (.cells #[.int .i64 kk, .string s, .string s2, .int .i64 off, .int .i64 m0, .slice (some a) dl dc] 34)) (.cells #[.int .i64 0, .slice none 0 0, .int .i64 0, .int .i64 0, .int .i64 0, .slice none 0 0, .int .i64 0] 31)
    rwa [World.size_alloc] at this
  rw [← hX]
  clear hX
  have f1 := blk_cell hX0 1
  have f3 := blk_cell hX0 3
  have f5 := blk_cell hX0 5
  simp at f1 f3 f5
  have HXB := Hid.mk hXB
  have HXS := Hid.mk hXs
  have HX0 := Hid.mk hX0
  have HX1 := Hid.mk hX1
  clear hXB hXs hX0 hX1
  go_wp2_with (first
    | (go_at_call 48; refine (HFI.out X HXB.out).mono ?_; rintro e' W1 ⟨rfl, hB1⟩
       have hx := (hB1.block _ (lt_of_block HX0.out)).trans HX0.out
       have hy : (W1.alloc (.cells #[.pointer (some ⟨b, 0, none⟩)] 49)).heap[w.heap.size]? = _ := (Below.heap_alloc _ _ _ (lt_of_block hx)).trans hx
       have hx1 := (hB1.block _ (lt_of_block HX1.out)).trans HX1.out
       have hy1 : (W1.alloc (.cells #[.pointer (some ⟨b, 0, none⟩)] 49)).heap[w.heap.size + 1]? = _ := (Below.heap_alloc _ _ _ (lt_of_block hx1)).trans hx1
       have hn := blk_new W1 (.cells #[.pointer (some ⟨b, 0, none⟩)] 49)
       have g3 := blk_cell hy 3
       have g5 := blk_cell hy 5
       have n0 := blk_cell hn 0
       simp at g3 g5 n0
       have HY1 := Hid.mk hy1
       have HB1 : Hid (Below w.heap.size w (W1.alloc (.cells #[.pointer (some ⟨b, 0, none⟩)] 49))) := Hid.mk (by have := HXB.out.trans (hB1.mono HXB.out.size); exact this.alloc this.size _)
       clear hB1 hx hy hx1 hy1 hn f1 f3 f5)
    | (go_at_call 50; refine (HFL.out _ HB1.out).mono ?_; rintro e' W2 ⟨rfl, hB2⟩; have HB2 := Hid.mk (HB1.out.trans (hB2.mono HB1.out.size)); have HY2 := Hid.mk ((hB2.block _ (lt_of_block HY1.out)).trans HY1.out); clear hB2)
    | (go_at_call 38; refine (HTK.out _ HB2.out).mono ?_; rintro e' W3 ⟨rfl, hB3⟩; have HB3 := Hid.mk (HB2.out.trans (hB3.mono HB2.out.size)); have HY3 := Hid.mk ((hB3.block _ (lt_of_block HY2.out)).trans HY2.out); clear hB3 g3 g5 n0)
    | (go_at_call 19; refine (failed_any _ _).mono ?_; rintro e' W4 ⟨rfl, hb4⟩; have hbx := (hb4.block _ (lt_of_block HY3.out)).trans HY3.out; have z0 := blk_cell hbx 0; have y0 := blk_free hbx 0; have z1 := blk_cell hbx 1; have y1 := blk_free hbx 1; have z2 := blk_cell hbx 2; have y2 := blk_free hbx 2; have z3 := blk_cell hbx 3; have y3 := blk_free hbx 3; have z4 := blk_cell hbx 4; have y4 := blk_free hbx 4; have z5 := blk_cell hbx 5; have y5 := blk_free hbx 5; have z6 := blk_cell hbx 6; have y6 := blk_free hbx 6; simp at z0 z1 z2 z3 z4 z5 z6; have BXX := Hid.mk hbx; have HB4 := Hid.mk (HB3.out.trans (hb4.mono HB3.out.size)); unfold errV; clear hbx hb4))
  have hb7 := (box7 BXX.out (.int .i64 16) (.slice none 0 0) (.int .i64 0) (.int .i64 0) (.int .i64 0) (.slice none 0 0) (.int .i64 0)).1
  have ho7 := (box7 BXX.out (.int .i64 16) (.slice none 0 0) (.int .i64 0) (.int .i64 0) (.int .i64 0) (.slice none 0 0) (.int .i64 0)).2
  obtain ⟨Y, hY⟩ : ∃ Y, Y = (((((((W4.setCell ⟨w.heap.size + 1, 0, none⟩ (.int .i64 16)).setCell ⟨w.heap.size + 1, 1, none⟩ (.slice none 0 0)).setCell ⟨w.heap.size + 1, 2, none⟩ (.int .i64 0)).setCell ⟨w.heap.size + 1, 3, none⟩ (.int .i64 0)).setCell ⟨w.heap.size + 1, 4, none⟩ (.int .i64 0)).setCell ⟨w.heap.size + 1, 5, none⟩ (.slice none 0 0)).setCell ⟨w.heap.size + 1, 6, none⟩ (.int .i64 0)) := ⟨_, rfl⟩
  rw [← hY] at hb7 ho7 ⊢
  have k0 := blk_cell hb7 0
  have k1 := blk_cell hb7 1
  have k2 := blk_cell hb7 2
  have k3 := blk_cell hb7 3
  have k4 := blk_cell hb7 4
  have k5 := blk_cell hb7 5
  have k6 := blk_cell hb7 6
  simp at k0 k1 k2 k3 k4 k5 k6
  refine bodyPost_ret (v := errV 16) ?_ rfl ?_
  · simp [results, Tryz.results27, go_sem, errV, k0, k1, k2, k3, k4, k5, k6]
  · exact ⟨rfl, ((Only.of_below (S := fun _ => False) HB4.out (fun k h1 h2 => by omega)).trans ho7 (fun i hi => .inr (by omega))).below (Nat.le_refl _) (fun _ h => h.elim)⟩
theorem doo_full (w : World) (t : Nat) (σ : Tr) (Ls : List Lay) (hT : TrAt w t σ Ls) (hOk : ∀ x ∈ σ.nodes, x.Ok) (s s2 : ByteArray) (off m0 : Int) (a : Addr) (dl dc : Nat) (hs : s.size ≤ 16777216) (j : Nat) (he : fileE σ.nodes (ofS s) = (some j, 0)) (hj : j < σ.nodes.length) (hjk : (nodeAt σ.nodes j).isDir = false) (h0 : 0 ≤ off) (hd0 : 0 < dl) (hd1 : dl ≤ 8192) (hob : off ≤ 67379200 - (dl : Int)) (hpl : (nodeAt σ.nodes j).parts.length ≤ 70000) (hfit : fitsB σ.G σ.I σ.D σ.inodes σ.blocks 0 (fillN off dl (nodeAt σ.nodes j).parts) = false) :
    Calls Tryz.prog 9 #[ptrV t, callV 8 s s2 off m0 (.slice (some a) dl dc)] w fun e w' => e = .returned (errV 16) ∧ Step (fun k => k ∈ feet t Ls) w t w' σ := by
  refine (do_write w t σ Ls s s2 off m0 (some a) dl dc 16 0 0 0 0 (fun x y _ => x = .slice none 0 0 ∧ y = .slice none 0 0) (fun k hk => hT.lt k hk) (fun _ _ _ _ h _ => h) (Hid.mk (fun W hB _ => (write_full W t σ Ls (hT.below rfl hB) hOk 8 s s2 off m0 a dl dc hs j he hj hjk h0 hd0 hd1 hob hpl hfit).mono (fun e w' hh => ⟨none, 0, 0, none, 0, 0, hh.1, Step.still (hT.below rfl hB) (fun k hk => hk) hh.2, rfl, rfl⟩)))).mono ?_
  rintro e w' ⟨a1, n1, c1, a5, n5, c5, rfl, hst, h1, h2⟩
  cases h1; cases h2
  exact ⟨rfl, hst⟩
end Go.Proofs.YtehaoeclnmelhacGreat
