/-
  write: where nothing is wrong.
-/
import Derived.Test.YtehaoeclnmelhacGreatLayPz
import Derived.Test.YtehaoeclnmelhacGreatLayTop
namespace Go.Proofs.YtehaoeclnmelhacGreat
open Go Go.Proofs Go.RowKit Go.Shelf
attribute [local go_sem] Oper.semAt_some

section
variable {P : Program} {ops : Array Oper} {Q : Exit → Act → World → Prop} {md : Region.Mode} {S : World → Prop} {fuel : Nat} {listed : Array Bool} {t : Array Value} {w : World} {ds : List Deferred}
set_option maxRecDepth 100000 in
theorem opH_storeD (i : Nat) (w' : World) {oi : Oper} (hi : ops[i]? = some oi) (hd : oi.dst = none) (hw : Region.wanted oi (yielded ops t) = true)
    (hrun : (execOp (Act.eval { tmps := t, defers := ds }) oi).run P w = .ok .skip w') (hS : S w')
    (h : wpAnyH P md ops Q S fuel (listed.setIfInBounds i true) { tmps := t, defers := ds } w') : wpOp P ops Q i (fun a' w' => S w' ∧ wpAnyH P md ops Q S fuel (listed.setIfInBounds i true) a' w') { tmps := t, defers := ds } w := by
  unfold wpOp
  rw [hi]
  dsimp only
  rw [if_pos hw]
  left
  unfold Oper.wp
  rw [hrun, Oper.upon_skip, show (Act.put { tmps := t, defers := ds } oi.dst undef) = { tmps := t, defers := ds } from by simp [Act.put, hd]]
  exact ⟨hS, h⟩
end
/-- A file that is written. -/
def Nd.wr (off : Int) (xs : List Int) : Nd → Nd
  | .file l z p => .file l (max z (off + (xs.length : Int))) (wrP off xs.length xs p (pzN off xs.length))
  | .dir l z s => .dir l z s
def writeT (σ : Tr) (off : Int) (xs : List Int) (j : Nat) : Tr :=
  { σ with inodes := w64 (σ.inodes + 0), blocks := w64 (σ.blocks + fillN off xs.length (nodeAt σ.nodes j).parts), nodes := σ.nodes.modify j (fun x => x.wr off xs) }
/-- Between two rounds: the blocks of the rounds so far are written. -/
structure WrI (w : World) (m : Nat) (r : List Nat) (off cnt : Int) (xs : List Int) (p : List (Int × List Int)) (k : Nat) (W : World) : Prop where
  ex : ∃ rk, PtAt W m rk (wrP off cnt xs p k) ∧ ∀ q ∈ rk, q ∈ r ∨ w.heap.size + 2 ≤ q
  only : Only (fun j => j = m ∨ j ∈ r) w W
theorem WrI_own {w : World} {m : Nat} {r : List Nat} {off cnt : Int} {xs : List Int} {p : List (Int × List Int)} (hm : m < w.heap.size) (hr : ∀ q ∈ r, q < w.heap.size) (k : Nat) (A B : World) (row : Option Nat) (h : WrI w m r off cnt xs p k A) (hg : A.grownBy B row) (hrow : ∀ q, row = some q → q = w.heap.size + 1) : WrI w m r off cnt xs p k B := by
  obtain ⟨rk, h1, h2⟩ := h.ex
  refine ⟨⟨rk, h1.kept (fun q hq => hg.block q ?_ (fun e => ?_)), h2⟩, h.only.grown hg (fun q e => .inr (by have := hrow q e; omega))⟩
  · rcases List.mem_cons.1 hq with rfl | hq
    · exact h1.blocks.lt
    · obtain ⟨i, hi, e⟩ := List.getElem_of_mem hq
      have hp : i < (wrP off cnt xs p k).length := by rw [← h1.len]; exact hi
      have hz : ((wrP off cnt xs p k)[i], q) ∈ (wrP off cnt xs p k).zip rk := List.mem_of_getElem? (i := i) (by rw [List.getElem?_zip_eq_some]; exact ⟨List.getElem?_eq_getElem hp, by rw [List.getElem?_eq_getElem hi, e]⟩)
      exact lt_of_block (h1.rows _ hz).1
  · have := hrow q e.symm
    rcases List.mem_cons.1 hq with rfl | hq
    · omega
    · rcases h2 q hq with h | h
      · have := hr q h; omega
      · omega
set_option maxRecDepth 100000 in
set_option maxHeartbeats 4000000 in
theorem write_main (w : World) (t : Nat) (σ : Tr) (Ls : List Lay) (hT : TrAt w t σ Ls) (hOk : ∀ x ∈ σ.nodes, x.Ok) (kk : Int) (s s2 : ByteArray) (off m0 : Int) (a : Addr) (dl dc : Nat) (xs : List Int) (hs : s.size ≤ 16777216) (j : Nat) (he : fileE σ.nodes (ofS s) = (some j, 0)) (hj : j < σ.nodes.length) (hjk : (nodeAt σ.nodes j).isDir = false) (h0 : 0 ≤ off) (hd0 : 0 < dl) (hd1 : dl ≤ 8192) (hdc : dl ≤ dc) (hdc2 : dc ≤ 9223372036854775807) (hob : off ≤ 67379200 - (dl : Int)) (hX : BAt w (some a) dl xs) (hap : a.block ∉ feet t Ls) (hpl : (nodeAt σ.nodes j).parts.length ≤ 70000) (hfit : fitsB σ.G σ.I σ.D σ.inodes σ.blocks 0 (fillN off xs.length (nodeAt σ.nodes j).parts) = true) :
    Calls Tryz.prog 27 #[ptrV t, callV kk s s2 off m0 (.slice (some a) dl dc)] w fun e w' => e = .returned (.agg #[.int .i64 0, .slice none 0 0, .int .i64 0, .int .i64 0, .int .i64 0, .slice none 0 0, .int .i64 dl]) ∧ Step (fun k => k ∈ feet t Ls) w t w' (writeT σ off xs j) := by
  have HTL : Hid (∀ k ∈ feet t Ls, k < w.heap.size) := Hid.mk (fun k hk => hT.lt k hk)
  have hxl : xs.length = dl := hX.1
  obtain ⟨b, m, r, l, z, p, q1, q2, q3, q4, q5⟩ := hT.fileAt hj hjk
  have hok : (Nd.file l z p).Ok := hOk _ (List.mem_of_getElem? q2)
  have hpp : (nodeAt σ.nodes j).parts = p := by rw [q5]; rfl
  rw [hpp, hxl] at hfit
  rw [hpp] at hpl
  have HFI : Hid (∀ W, Below w.heap.size w W → _) := Hid.mk (fun W (hB : Below w.heap.size w W) => file_any W t σ Ls (hT.below rfl hB) s hs)
  rw [he] at HFI
  simp only [optV, ptrV, q4] at HFI
  have HFL : Hid (∀ W, Below w.heap.size w W → _) := Hid.mk (fun W (hB : Below w.heap.size w W) => filling_any W b m r l z p (q3.kept (fun q hq => hB.block q (NdAt.lt (loc := fun _ => 0) (L := .file b m r) (d := .file l z p) q3 q hq))) hok.1 hpl off dl h0 (by omega) (by omega) (by omega))
  have HTK : Hid (∀ W, Below w.heap.size w W → Calls Tryz.prog 38 #[ptrV t, .int .i64 0, .int .i64 (fillN off dl p)] W fun e w' => e = .returned (.int .i64 0) ∧ TrAt w' t { σ with inodes := w64 (σ.inodes + 0), blocks := w64 (σ.blocks + fillN off dl p) } Ls ∧ Only (fun k => k = t) W w') := Hid.mk (fun W hB => by
    have hTW := hT.below rfl hB
    refine (take_any W t (locL Ls 0) σ.G σ.I σ.D σ.inodes σ.blocks hTW.tree 0 (fillN off dl p)).mono ?_
    rintro e w' (⟨h1, _, _⟩ | ⟨h1, h2, h3, h4⟩)
    · rw [hfit] at h1; cases h1
    · exact ⟨h2, hTW.count h4 h3, h4⟩)
  have c1 : ¬ off < 0 := by omega
  have c2 : ¬ (8192 : Int) < (dl : Int) := by omega
  have c3 : ¬ (67379200 : Int) - (dl : Int) < off := by omega
  have c4 : ¬ ((dl : Int) = 0) := by omega
  have c5 : ((dl : Int) == 0) = false := by simp; omega
  have c6 : IntKind.i64.wrap (67379200 - (dl : Int)) = 67379200 - (dl : Int) := by rw [IntKind.wrap_i64]; omega
  have HT := Hid.mk hT
  have HX := Hid.mk hX
  have HQ := Hid.mk (And.intro q1 (And.intro q2 q3))
  have HPK := Hid.mk hok.1
  have HNUM := Hid.mk (And.intro h0 (And.intro hd0 (And.intro hd1 (And.intro hdc (And.intro hdc2 hob)))))
  have HWT : Hid (writeT σ off xs j = { σ with inodes := w64 (σ.inodes + 0), blocks := w64 (σ.blocks + fillN off dl p), nodes := σ.nodes.set j (.file l (max z (off + (dl : Int))) (wrP off dl xs p (pzN off dl))) }) := Hid.mk (by
    unfold writeT
    rw [hpp, hxl, modify_set q2]
    simp only [Nd.wr, hxl])
  have HAP := Hid.mk hap
  rw [HWT.out]
  clear hT hOk he hj hjk hX hap hfit hpp hok q1 q2 q3 q5 hs hd0 hdc hxl
  unfold callV ptrV at *
  refine (callsIn_wide (n := 5)).1 ?_
  refine callsIn_of_wp_marks Tryz.func27 rfl trivial ?_ rfl
  simp only [Tryz.ntmps27, List.size_toArray, List.length_cons, List.length_nil, Nat.reduceAdd, Nat.reduceSub, Array.replicate_succ, Array.replicate_zero, List.push_toArray, List.append_toArray, List.nil_append, List.cons_append]
  gi_wp2_with fail
  obtain ⟨X, hX⟩ : ∃ X, X = (w.alloc (.cells #[.int .i64 kk, .string s, .string s2, .int .i64 off, .int .i64 m0, .slice (some a) dl dc] 34)).alloc (.cells #[.int .i64 0, .slice none 0 0, .int .i64 0, .int .i64 0, .int .i64 0, .slice none 0 0, .int .i64 0] 31) := ⟨_, rfl⟩
  have hXB : Below w.heap.size w X := by rw [hX]; exact ((Below.refl _ w).alloc (Nat.le_refl _) _).alloc (by simp) _
  have hXs : X.heap.size = w.heap.size + 2 := by rw [hX]; simp
  have hX0 : X.heap[w.heap.size]? = some (.cells #[.int .i64 kk, .string s, .string s2, .int .i64 off, .int .i64 m0, .slice (some a) dl dc] 34 (0, 0)) := by rw [hX, Below.heap_alloc _ _ _ (by simp)]; exact blk_new w _
  have hX1 : X.heap[w.heap.size + 1]? = some (.cells #[.int .i64 0, .slice none 0 0, .int .i64 0, .int .i64 0, .int .i64 0, .slice none 0 0, .int .i64 0] 31 (0, 0)) := by
    rw [hX]
    have := blk_new (w.alloc (.cells #[.int .i64 kk, .string s, .string s2, .int .i64 off, .int .i64 m0, .slice (some a) dl dc] 34)) (.cells #[.int .i64 0, .slice none 0 0, .int .i64 0, .int .i64 0, .int .i64 0, .slice none 0 0, .int .i64 0] 31)
    rwa [World.size_alloc] at this
  rw [← hX]
  clear hX
  have f1 := blk_cell hX0 1
  have f3 := blk_cell hX0 3
  have f5 := blk_cell hX0 5
  simp at f1 f3 f5
  have HXB := Hid.mk hXB
  have HXS := Hid.mk hXs
  have HX0 := Hid.mk hX0
  have HX1 := Hid.mk hX1
  clear hXB hXs hX0 hX1
  gi_wp2_with (first
    | (refine ⟨trivial, ?_⟩; gi_at_call 48; refine (callsIn_wide.2 (HFI.out X HXB.out)).mono ?_; rintro e' W1 ⟨rfl, hB1⟩
       have hx := (hB1.block _ (lt_of_block HX0.out)).trans HX0.out
       have hy : (W1.alloc (.cells #[.pointer (some ⟨b, 0, none⟩)] 49)).heap[w.heap.size]? = _ := (Below.heap_alloc _ _ _ (lt_of_block hx)).trans hx
       have hx1 := (hB1.block _ (lt_of_block HX1.out)).trans HX1.out
       have hy1 : (W1.alloc (.cells #[.pointer (some ⟨b, 0, none⟩)] 49)).heap[w.heap.size + 1]? = _ := (Below.heap_alloc _ _ _ (lt_of_block hx1)).trans hx1
       have hn := blk_new W1 (.cells #[.pointer (some ⟨b, 0, none⟩)] 49)
       have g3 := blk_cell hy 3
       have g5 := blk_cell hy 5
       have n0 := blk_cell hn 0
       simp at g3 g5 n0
       have HY0 := Hid.mk hy
       have HY1 := Hid.mk hy1
       have HN := Hid.mk hn
       have HB1 : Hid (Below w.heap.size w (W1.alloc (.cells #[.pointer (some ⟨b, 0, none⟩)] 49))) := Hid.mk (by have := HXB.out.trans (hB1.mono HXB.out.size); exact this.alloc this.size _)
       have HWS : Hid (w.heap.size + 2 ≤ W1.heap.size) := Hid.mk (by have := hB1.size; have := HXS.out; omega)
       clear hB1 hx hy hx1 hy1 hn f1 f3 f5)
    | (refine ⟨trivial, ?_⟩; gi_at_call 50; refine (callsIn_wide.2 (HFL.out _ HB1.out)).mono ?_; rintro e' W2 ⟨rfl, hB2⟩; have HB2 := Hid.mk hB2; clear hB2)
    | (refine ⟨trivial, ?_⟩; gi_at_call 38; refine (callsIn_wide.2 (HTK.out _ (HB1.out.trans (HB2.out.mono HB1.out.size)))).mono ?_; rintro e' W3 ⟨rfl, hT3, hO3⟩
       have hne : ∀ q, w.heap.size ≤ q → q ≠ t := fun q hq e => by have := HTL.out t (by simp [feet]); omega
       have hO : Only (fun k => k = t) (W1.alloc (.cells #[.pointer (some ⟨b, 0, none⟩)] 49)) W3 := (Only.of_new _ HB2.out).trans hO3 (fun i hi => .inl hi)
       have hy := (hO.block _ (lt_of_block HY0.out) (hne _ (Nat.le_refl _))).trans HY0.out
       have hy1 := (hO.block _ (lt_of_block HY1.out) (hne _ (by omega))).trans HY1.out
       have hn := (hO.block _ (lt_of_block HN.out) (hne _ (by have := HWS.out; omega))).trans HN.out
       have u3 := blk_cell hy 3
       have u5 := blk_cell hy 5
       simp at u3 u5
       have HZ0 := Hid.mk hy
       have HZ1 := Hid.mk hy1
       have HZN := Hid.mk hn
       have HT3 := Hid.mk hT3
       have HO3 : Hid (Only (fun k => k = t) w W3) := Hid.mk ((Only.of_new _ HB1.out).trans hO (fun i hi => .inl hi))
       clear hy hy1 hn hT3 hO3 hO hne g3 g5 n0)
    | (refine ⟨trivial, ?_⟩; gi_at_call 49; refine (callsIn_wide.2 (pieces_any _ off dl)).mono ?_; rintro e w4 ⟨rfl, hw4⟩; have HW4 := Hid.mk hw4; clear hw4))
  have hs4 : w4.heap.size = W3.heap.size + 2 := by rw [HW4.out]; simp
  have HEQ4 := HW4
  have hbl4 : ∀ q, q < W3.heap.size → w4.heap[q]? = W3.heap[q]? := fun q hq => by rw [HW4.out, Below.heap_alloc _ _ _ (by simp; omega), Below.heap_alloc _ _ _ hq]
  have hp2 : w4.heap[W3.heap.size]? = some (.cells #[.int .i64 off] 3 (0, 0)) := by rw [HW4.out, Below.heap_alloc _ _ _ (by simp)]; exact blk_new W3 _
  have hp3 : w4.heap[W3.heap.size + 1]? = some (.cells #[.int .i64 dl] 3 (0, 0)) := by
    rw [HW4.out]
    have := blk_new (W3.alloc (.cells #[.int .i64 off] 3)) (.cells #[.int .i64 dl] 3)
    rwa [World.size_alloc] at this
  have hO4 : Only (fun k => k = t) w w4 := by rw [HW4.out]; exact (HO3.out.alloc _).alloc _
  have hfeet : ∀ q ∈ b :: m :: r, q ∈ feet t Ls := fun q hq => mem_feet HQ.out.1 (by simpa [Lay.foot] using hq)
  have hnd : (b :: m :: r).Nodup := foot_nodup (List.nodup_cons.1 HT.out.apart).2 HQ.out.1
  have htn : ∀ q ∈ b :: m :: r, q ≠ t := fun q hq e => (List.nodup_cons.1 HT.out.apart).1 (List.mem_flatMap.2 ⟨_, List.mem_of_getElem? HQ.out.1, by subst e; simpa [Lay.foot] using hq⟩)
  have hfl4 : FlAt w4 b m r l z p := HQ.out.2.2.kept (fun q hq => hO4.block q (HTL.out q (hfeet q hq)) (htn q hq))
  have hpt4 : PtAt w4 m r p := hfl4.parts HPK.out (List.nodup_cons.1 hnd).2
  have hX4 : BAt w4 (some a) dl xs := HX.out.only hO4 (fun a' e hlt hb => by cases e; exact HAP.out (by rw [hb]; simp [feet]))
  have hcl4 := (hbl4 _ (lt_of_block HZ0.out)).trans HZ0.out
  have hrs4 := (hbl4 _ (lt_of_block HZ1.out)).trans HZ1.out
  have hnb4 := (hbl4 _ (lt_of_block HZN.out)).trans HZN.out
  have hw4s : w.heap.size ≤ w4.heap.size := hO4.size
  have hml : m < w4.heap.size := by have := HTL.out m (hfeet m (by simp)); omega
  have hrl : ∀ q ∈ r, q < w4.heap.size := fun q hq => by have := HTL.out q (hfeet q (by simp [hq])); omega
  -- what lies apart from the blocks that the rounds turn
  have HST : Hid (∀ q, q < w4.heap.size → (w.heap.size ≤ q ∨ q = b ∨ q ∉ feet t Ls) → ∀ k W, WrI w4 m r off dl xs p k W → W.heap[q]? = w4.heap[q]?) := Hid.mk (fun q hq hor k W hI => hI.only.block q hq (fun hh => by
    have hqf : q ∈ feet t Ls := hfeet q (by rcases hh with rfl | hh <;> simp [*])
    rcases hor with h | h | h
    · have := HTL.out q hqf; omega
    · subst h
      rcases hh with h | h
      · exact (List.nodup_cons.1 hnd).1 (by rw [h]; simp)
      · exact (List.nodup_cons.1 hnd).1 (by simp [h])
    · exact h hqf))
  have hI0 : WrI w4 m r off dl xs p 0 w4 := ⟨⟨r, hpt4, fun q hq => .inl hq⟩, Only.refl _ _⟩
  have H4 := Hid.mk (And.intro hcl4 (And.intro hrs4 (And.intro hnb4 (And.intro hfl4.node (And.intro hX4 (And.intro hp2 hp3))))))
  have HML := Hid.mk (And.intro hml hrl)
  have HS4 := Hid.mk hs4
  have HO4 := Hid.mk hO4
  have HND := Hid.mk hnd
  have HFE := Hid.mk hfeet
  have HNBL : Hid (W1.heap.size < w4.heap.size ∧ w.heap.size + 1 < w4.heap.size ∧ b < w4.heap.size) := Hid.mk ⟨lt_of_block hnb4, lt_of_block hrs4, lt_of_block hfl4.node⟩
  clear hbl4 hp2 hp3 hO4 hfeet hnd htn hfl4 hpt4 hX4 hcl4 hrs4 hnb4 hw4s HZ0 HZ1 HZN HW4 u3 u5 HY0 HY1 HN HX0 HX1
  refine wpIn_range_kx (gf := 61) (lb := #[.pointer (some ⟨W3.heap.size + 1, 0, none⟩), .pointer (some ⟨W3.heap.size, 0, none⟩)]) rfl (enters_of Tryz.func61 (by kernel_rfl) rfl) (pzN off dl) (fun k => #[pzV off dl k]) (fun _ => rfl)
    (WrI w4 m r off dl xs p) (fun _ => False) (fun k A B row h hg hr => WrI_own hml hrl k A B row h hg hr) (fun _ _ _ h _ _ => h.elim) hI0 ?hit
    (fun k W => { tmps := #[.pointer (some ⟨t, 0, none⟩), .agg #[.int .i64 kk, .string s, .string s2, .int .i64 off, .int .i64 m0, .slice (some a) dl dc], undef, .pointer (some ⟨w.heap.size, 0, none⟩), .pointer (some ⟨w.heap.size + 1, 0, none⟩), .pointer (some ⟨W1.heap.size, 0, none⟩), .int .i64 0, .int .i64 0, .pointer (some ⟨W.heap.size, 0, none⟩), undef, undef, .pointer (some ⟨w.heap.size, 3, none⟩), .int .i64 off, .bool false, .bool false, .pointer (some ⟨w.heap.size, 5, none⟩), .slice (some a) dl dc, .int .i64 dl, .bool false, .bool false, undef, .tuple #[.pointer (some ⟨b, 0, none⟩), .int .i64 0], .pointer (some ⟨t, 0, none⟩), .pointer (some ⟨w.heap.size, 1, none⟩), .string s, .tuple #[.pointer (some ⟨b, 0, none⟩), .int .i64 0], .pointer (some ⟨b, 0, none⟩), .int .i64 0, .int .i64 0, .bool false, undef, undef, .pointer (some ⟨w.heap.size, 3, none⟩), .int .i64 off, .pointer (some ⟨w.heap.size, 5, none⟩), .slice (some a) dl dc, .int .i64 dl, .int .i64 (67379200 - (dl : Int)), .bool (decide (67379200 - (dl : Int) < off)), undef, .pointer (some ⟨w.heap.size, 5, none⟩), .slice (some a) dl dc, .int .i64 dl, .bool false, undef, .pointer (some ⟨t, 0, none⟩), .pointer (some ⟨b, 0, none⟩), .pointer (some ⟨w.heap.size, 3, none⟩), .int .i64 off, .pointer (some ⟨w.heap.size, 5, none⟩), .slice (some a) dl dc, .int .i64 dl, .int .i64 (fillN off dl p), .int .i64 0, .int .i64 0, .bool false, undef, undef, .pointer (some ⟨w.heap.size, 3, none⟩), .int .i64 off, .pointer (some ⟨w.heap.size, 5, none⟩), .slice (some a) dl dc, .int .i64 dl, .func (.func 61) #[] #[.pointer (some ⟨W3.heap.size + 1, 0, none⟩), .pointer (some ⟨W3.heap.size, 0, none⟩)], pzV off dl k, undef, undef, undef, undef, undef, undef, undef, undef, undef, undef, undef, undef, undef, undef, undef, undef, undef, undef, undef, undef, undef, undef, undef, undef, undef, undef, undef, undef, undef, undef, undef, undef, undef, undef, undef, undef, undef, undef, undef, undef, undef, undef, undef, undef, undef, undef, undef, undef, undef, undef, undef, undef, undef, undef, undef], defers := [] })
    (fun k W => W.alloc (pzO off dl k)) (fun k W => alloc_grown W _) ?assign ?body ?done ?stop
  case hit =>
    intro l' J Jx W hJI hg hY h0'
    have hn := HNUM.out
    have h2 := H4.out
    exact pieces1_in 4 (by omega) l' W3.heap.size off dl h0 (by omega) (by omega) (by omega) J Jx W (fun k A hJ => ⟨by rw [blk_cell ((HST.out W3.heap.size (by have := HS4.out; omega) (.inl (by have := HO3.out.size; omega)) k A (hJI k A hJ)).trans h2.2.2.2.2.2.1)]; rfl, by rw [blk_cell ((HST.out (W3.heap.size + 1) (by have := HS4.out; omega) (.inl (by have := HO3.out.size; omega)) k A (hJI k A hJ)).trans h2.2.2.2.2.2.2)]; rfl⟩) hY h0'
  case assign =>
    intro l' k W K hK
    unfold pzO at hK
    unfold pzV at hK ⊢
    generalize pzB off k = x1 at *
    generalize pzA off k = x2 at *
    generalize pzF off dl k = x3 at *
    generalize pzF off dl (k + 1) = x4 at *
    gi_wp2
    exact hK
  case body =>
    intro lp k W W2 hI hk hsz hg2 hs2
    have hn := HNUM.out
    have h4 := H4.out
    obtain ⟨p0, p1, p2, p3, p4, p5, p6, p7, p8, p9⟩ := pz_in h0 (show (0 : Int) ≤ (dl : Int) by omega) hk
    have hIa := WrI_own HML.out.1 HML.out.2 k W (W.alloc (pzO off dl k)) none hI (alloc_grown W _) (by simp)
    have hI2 := WrI_own HML.out.1 HML.out.2 k _ W2 _ hIa hg2 (fun q e => (Option.some.inj e).symm)
    have hbx : W2.heap[W.heap.size]? = some (pzO off dl k) := (hg2.block W.heap.size (by simp) (fun e => by have := Option.some.inj e; omega)).trans (blk_new W _)
    have hsz2 : W2.heap.size = W.heap.size + 1 := by rw [hs2]; simp
    obtain ⟨x, hx⟩ : ∃ x, x = pzB off k := ⟨_, rfl⟩
    obtain ⟨A, hA⟩ : ∃ A : Nat, A = (pzA off k).toNat := ⟨_, rfl⟩
    obtain ⟨F, hF⟩ : ∃ F : Nat, F = (pzF off dl k).toNat := ⟨_, rfl⟩
    obtain ⟨E, hE⟩ : ∃ E : Nat, E = (pzF off dl (k + 1)).toNat := ⟨_, rfl⟩
    have hxb : 0 ≤ x ∧ x < 65800 := by rw [hx, ← p3]; omega
    have HA : Hid (A < 1024) := Hid.mk (by omega)
    have HF : Hid (F < E ∧ E ≤ dl ∧ dl ≤ dc ∧ dl ≤ 8192 ∧ dc ≤ 9223372036854775807) := Hid.mk (by omega)
    have HEF : Hid (E - F ≤ 1024 - A) := Hid.mk (by omega)
    have hbx' : W2.heap[W.heap.size]? = some (.cells #[.int .i64 x, .int .i64 (A : Int), .int .i64 (F : Int), .int .i64 (E : Int)] 85 (0, 0)) := by
      rw [hbx]
      unfold pzO
      rw [← hx, show pzA off k = (A : Int) by omega, show pzF off dl k = (F : Int) by omega, show pzF off dl (k + 1) = (E : Int) by omega]
    have hwr : wrP off dl xs p (k + 1) = putP x (splice ((getP (wrP off dl xs p k) x).getD (zeros 1024)) A ((xs.drop F).take (E - F))) (wrP off dl xs p k) := by
      rw [wrP, ← hx]
      unfold wrRow wrSeg
      rw [← hA, ← hF, show (pzF off dl (k + 1) - pzF off dl k).toNat = E - F by omega]
    have hcl2 := (HST.out w.heap.size (by have := HNBL.out; omega) (.inl (Nat.le_refl _)) k W2 hI2).trans h4.1
    have hnb2 := (HST.out W1.heap.size HNBL.out.1 (.inl (by have := HWS.out; omega)) k W2 hI2).trans h4.2.2.1
    have hnd2 := (HST.out b HNBL.out.2.2 (.inr (.inl rfl)) k W2 hI2).trans h4.2.2.2.1
    have hX2 : BAt W2 (some a) dl xs := h4.2.2.2.2.1.only hI2.only (fun a' e hlt hb => by
      cases e
      exact HAP.out (HFE.out _ (by rcases hb with h | h <;> simp [h])))
    obtain ⟨rk, hpt, hrk0⟩ := hI.ex
    have hrl0 : ∀ q ∈ rk, q < W.heap.size := fun q hq => by
      obtain ⟨i, hi, e⟩ := List.getElem_of_mem hq
      have hp : i < (wrP off dl xs p k).length := by rw [← hpt.len]; exact hi
      have hz : ((wrP off dl xs p k)[i], q) ∈ (wrP off dl xs p k).zip rk := List.mem_of_getElem? (i := i) (by rw [List.getElem?_zip_eq_some]; exact ⟨List.getElem?_eq_getElem hp, by rw [List.getElem?_eq_getElem hi, e]⟩)
      exact lt_of_block (hpt.rows _ hz).1
    have hml0 : m < W.heap.size := hpt.blocks.lt
    have hrw : ∀ q ∈ m :: rk, q ≠ w4.heap.size + 1 := fun q hq => by
      rcases List.mem_cons.1 hq with rfl | hq
      · have := HML.out.1; omega
      · rcases hrk0 q hq with h | h
        · have := HML.out.2 q h; omega
        · omega
    have hpt2 : PtAt W2 m rk (wrP off dl xs p k) := hpt.kept (fun q hq => by
      have hlt : q < W.heap.size := by rcases List.mem_cons.1 hq with rfl | hq; exact hml0; exact hrl0 q hq
      exact (hg2.block q (by simp; omega) (fun e => hrw q hq (Option.some.inj e))).trans (Below.heap_alloc _ _ _ hlt))
    have hkp : (wrP off dl xs p k).length ≤ 100000 := by have := (wr_len off dl xs p k HPK.out.1).2; have := pz_lt (off := off) (n := dl) (by omega); omega
    -- the blocks that a round leaves are none of these
    have hap : ∀ q, (w.heap.size ≤ q ∨ q = b ∨ q ∉ feet t Ls) → q < w4.heap.size ∨ q = W.heap.size → ∀ q' ∈ m :: rk, q ≠ q' := fun q hq hq2 q' hq' e => by
      subst e
      rcases hq2 with hq2 | rfl
      · have hin : q ∈ m :: r := by
          rcases List.mem_cons.1 hq' with h | h
          · simp [h]
          · rcases hrk0 q h with h | h
            · simp [h]
            · omega
        have hf : q ∈ feet t Ls := HFE.out q (by simp at hin ⊢; exact .inr hin)
        rcases hq with h | h | h
        · have := HTL.out q hf; omega
        · exact (List.nodup_cons.1 HND.out).1 (h ▸ hin)
        · exact h hf
      · rcases List.mem_cons.1 hq' with h | h
        · omega
        · have := hrl0 _ h; omega
    have HAPT := Hid.mk hap
    have HSEG2 : Hid (BAt W2 (some (a.add F)) (E - F) ((xs.drop F).take (E - F))) := Hid.mk ((hX2.from F (by have := HF.out; omega)).upto (by have := HF.out; omega))
    have HXB := Hid.mk hxb
    have HWR := Hid.mk hwr
    have HPT2 := Hid.mk hpt2
    have HRK := Hid.mk hrk0
    have HRL := Hid.mk hrl0
    have HI2 := Hid.mk hI2
    have HKP := Hid.mk hkp
    have HSZ := Hid.mk hsz
    have HSZ2 := Hid.mk hsz2
    have HBX := Hid.mk hbx'
    have HCL := Hid.mk hcl2
    have HNB := Hid.mk hnb2
    have HND2 := Hid.mk hnd2
    have HHB : Hid (W1.heap.size < w4.heap.size ∧ w.heap.size < w4.heap.size ∧ b < w4.heap.size ∧ w.heap.size ≤ W1.heap.size) := Hid.mk (by have := HNBL.out; have := HWS.out; omega)
    unfold pzV
    rw [← hx, show pzA off k = (A : Int) by omega, show pzF off dl k = (F : Int) by omega, show pzF off dl (k + 1) = (E : Int) by omega]
    clear hap hxb hwr hpt2 hpt hrk0 hrl0 hI2 hIa hI hkp hsz hsz2 hbx hbx' hcl2 hnb2 hnd2 hX2 hrw hml0 hg2 hs2 h4 hn p0 p1 p2 p3 p4 p5 p6 p7 p8 p9 hx hA hF hE hI0 hml hrl hk
    have HAPW : Hid (∀ q, (q = W1.heap.size ∨ q = w.heap.size ∨ q = b ∨ q = W.heap.size) → ∀ q' ∈ m :: rk, q ≠ q') := Hid.mk (fun q hq => by
      have h1 := HHB.out
      have h2 := HSZ.out
      refine HAPT.out q ?_ ?_ <;> omega)
    have CELL : Hid (∀ V : World, (∀ q, (q = W1.heap.size ∨ q = w.heap.size ∨ q = b ∨ q = W.heap.size) → V.heap[q]? = W2.heap[q]?) → V.cell? ⟨W1.heap.size, 0, none⟩ = some (.pointer (some ⟨b, 0, none⟩)) ∧ V.cell? ⟨b, 3, none⟩ = some (.map (some m)) ∧ V.cell? ⟨W.heap.size, 0, none⟩ = some (.int .i64 x) ∧ V.cell? ⟨W.heap.size, 1, none⟩ = some (.int .i64 (A : Int)) ∧ V.cell? ⟨W.heap.size, 2, none⟩ = some (.int .i64 (F : Int)) ∧ V.cell? ⟨W.heap.size, 3, none⟩ = some (.int .i64 (E : Int)) ∧ V.cell? ⟨w.heap.size, 5, none⟩ = some (.slice (some a) dl dc)) := Hid.mk (fun V hV => by
      have e1 := (hV W1.heap.size (.inl rfl)).trans HNB.out
      have e2 := (hV w.heap.size (.inr (.inl rfl))).trans HCL.out
      have e3 := (hV b (.inr (.inr (.inl rfl)))).trans HND2.out
      have e4 := (hV W.heap.size (.inr (.inr (.inr rfl)))).trans HBX.out
      exact ⟨by rw [blk_cell e1]; rfl, by rw [blk_cell e3]; rfl, by rw [blk_cell e4]; rfl, by rw [blk_cell e4]; rfl, by rw [blk_cell e4]; rfl, by rw [blk_cell e4]; rfl, by rw [blk_cell e2]; rfl⟩)
    have HQB : Hid (W1.heap.size < W2.heap.size ∧ w.heap.size < W2.heap.size ∧ b < W2.heap.size ∧ W.heap.size < W2.heap.size ∧ w4.heap.size + 2 < W2.heap.size) := Hid.mk (by have h1 := HHB.out; have h2 := HSZ.out; have h3 := HSZ2.out; omega)
    have HOL : Hid (∀ q W6, (q ∈ rk ∨ W2.heap.size ≤ q) → Only (fun j => j = q ∨ j = m) W2 W6 → W6.heap[w4.heap.size]? = W2.heap[w4.heap.size]? ∧ W6.heap[w4.heap.size + 1]? = W2.heap[w4.heap.size + 1]? ∧ Only (fun j => j = m ∨ j ∈ r) w4 W6) := Hid.mk (fun q W6 hq ho => by
      have h3 := HQB.out
      have hqb : q ≠ w4.heap.size ∧ q ≠ w4.heap.size + 1 ∧ (q ∈ r ∨ w4.heap.size ≤ q) := by
        rcases hq with hq | hq
        · rcases HRK.out q hq with h | h
          · have := HML.out.2 q h; exact ⟨by omega, by omega, .inl h⟩
          · exact ⟨by omega, by omega, .inr (by omega)⟩
        · exact ⟨by omega, by omega, .inr (by omega)⟩
      have hm := HML.out.1
      refine ⟨ho.block _ (by omega) (fun h => by omega), ho.block _ (by omega) (fun h => by omega), HI2.out.only.trans ho (fun i hi => ?_)⟩
      rcases hi with rfl | rfl
      · rcases hqb.2.2 with h | h
        · exact .inl (.inr h)
        · exact .inr h
      · exact .inl (.inl rfl))
    generalize W.heap.size = bx at *
    rcases HPT2.out.get x with ⟨g1, g2, g3⟩ | ⟨d, q, g1, g2, g3, g4⟩
    · have hlk2 : (Instr.lookup 60 (.map (some m)) (.int .i64 x) true).run Tryz.prog W2.drew = .ok (.tuple #[.slice none 0 0, .bool false]) W2.drew := by
        have := (HPT2.out.kept (W' := W2.drew) (fun _ _ => rfl)).blocks.look2 keyed3 Tryz.underlying60 (zero_bytes W2.drew) (Maps.keyOf_int_mk Tryz.underlying3 (okI_of (a := x) (by have := HXB.out; omega) (by have := HXB.out; omega)))
        rw [g3] at this
        exact this
      have HS0 : Hid (W2.drew.cell? ⟨W1.heap.size, 0, none⟩ = some (.pointer (some ⟨b, 0, none⟩)) ∧ W2.drew.cell? ⟨b, 3, none⟩ = some (.map (some m)) ∧ W2.drew.cell? ⟨bx, 0, none⟩ = some (.int .i64 x) ∧ (Instr.lookup 60 (.map (some m)) (.int .i64 x) true).run Tryz.prog W2.drew = .ok (.tuple #[.slice none 0 0, .bool false]) W2.drew) := Hid.mk (by
        obtain ⟨y1, y2, y3, -⟩ := CELL.out W2.drew (fun _ _ => rfl)
        exact ⟨y1, y2, y3, hlk2⟩)
      obtain ⟨W5, hup, hpt5, ho5⟩ := (HPT2.out.kept (W' := W2.drew.drew) (fun _ _ => rfl)).new HXB.out.1 HXB.out.2 g2 HKP.out
      have ho52 : Only (fun j => j = m) W2 W5 := ⟨ho5.os, ho5.tape, ho5.output, ho5.size, ho5.block⟩
      have hml2 := HPT2.out.blocks.lt
      have HUP := Hid.mk hup
      have HS1 : Hid (W2.drew.drew.cell? ⟨W1.heap.size, 0, none⟩ = some (.pointer (some ⟨b, 0, none⟩)) ∧ W2.drew.drew.cell? ⟨b, 3, none⟩ = some (.map (some m)) ∧ W2.drew.drew.cell? ⟨bx, 0, none⟩ = some (.int .i64 x)) := Hid.mk (by
        obtain ⟨y1, y2, y3, -⟩ := CELL.out W2.drew.drew (fun _ _ => rfl)
        exact ⟨y1, y2, y3⟩)
      have HSA : Hid ((W2.drew.drew.alloc (.cells (By (zeros 1024)).toArray 5)).cell? ⟨W1.heap.size, 0, none⟩ = some (.pointer (some ⟨b, 0, none⟩)) ∧ (W2.drew.drew.alloc (.cells (By (zeros 1024)).toArray 5)).cell? ⟨b, 3, none⟩ = some (.map (some m)) ∧ (W2.drew.drew.alloc (.cells (By (zeros 1024)).toArray 5)).cell? ⟨bx, 0, none⟩ = some (.int .i64 x)) := Hid.mk (by
        obtain ⟨y1, y2, y3, -⟩ := CELL.out (W2.drew.drew.alloc (.cells (By (zeros 1024)).toArray 5)) (fun q hq => Below.heap_alloc _ _ _ (show q < W2.heap.size by have := HQB.out; omega))
        exact ⟨y1, y2, y3⟩)
      have HCL5 : Hid (∀ q, (q = W1.heap.size ∨ q = w.heap.size ∨ q = b ∨ q = bx) → W5.heap[q]? = W2.heap[q]?) := Hid.mk (fun q hq => ho52.block q (by have := HQB.out; omega) (fun e => HAPW.out q hq m (by simp) e))
      have HSU : Hid (W5.cell? ⟨W1.heap.size, 0, none⟩ = some (.pointer (some ⟨b, 0, none⟩)) ∧ W5.cell? ⟨b, 3, none⟩ = some (.map (some m)) ∧ W5.cell? ⟨bx, 0, none⟩ = some (.int .i64 x)) := Hid.mk (by
        obtain ⟨y1, y2, y3, -⟩ := CELL.out W5 HCL5.out
        exact ⟨y1, y2, y3⟩)
      obtain ⟨q, hq⟩ : ∃ q, q = W2.heap.size := ⟨_, rfl⟩
      have hq2 : W2.drew.drew.heap.size = q := hq.symm
      rw [hq2] at hpt5
      have hmq : m ≠ q := by omega
      have hz5 : ((x, zeros 1024), q) ∈ (putP x (zeros 1024) (wrP off dl xs p k)).zip (putR x q (wrP off dl xs p k) rk) := by
        rw [zip_put x (zeros 1024) q HPT2.out.len]
        simp
      have hfl5 : flF (putP x (zeros 1024) (wrP off dl xs p k)) (putR x q (wrP off dl xs p k) rk) (.int .i64 x) = some (.slice (some ⟨q, 0, none⟩) 1024 1024) := by
        rw [fl_put x (zeros 1024) q HPT2.out.len, upd_same]
      have HPT5 := Hid.mk hpt5
      have HMB : Hid (∀ V : World, V.heap[m]? = W5.heap[m]? → (Instr.lookup 60 (.map (some m)) (.int .i64 x) false).run Tryz.prog V = .ok (.slice (some ⟨q, 0, none⟩) 1024 1024) V) := Hid.mk (fun V hV => by
        have := (HPT5.out.blocks.kept hV).look keyed3 Tryz.underlying60 (zero_bytes V) (Maps.keyOf_int_mk Tryz.underlying3 (okI_of (a := x) (by have := HXB.out; omega) (by have := HXB.out; omega)))
        rw [hfl5] at this
        exact this)
      have hs5 : q < W5.heap.size := lt_of_block (HPT5.out.rows _ hz5).1
      have HALL : Hid (∀ V : World, Only (fun j => j = q) W5 V → V.cell? ⟨W1.heap.size, 0, none⟩ = some (.pointer (some ⟨b, 0, none⟩)) ∧ V.cell? ⟨b, 3, none⟩ = some (.map (some m)) ∧ V.cell? ⟨bx, 0, none⟩ = some (.int .i64 x) ∧ V.cell? ⟨bx, 1, none⟩ = some (.int .i64 (A : Int)) ∧ V.cell? ⟨bx, 2, none⟩ = some (.int .i64 (F : Int)) ∧ V.cell? ⟨bx, 3, none⟩ = some (.int .i64 (E : Int)) ∧ V.cell? ⟨w.heap.size, 5, none⟩ = some (.slice (some a) dl dc) ∧ (Instr.lookup 60 (.map (some m)) (.int .i64 x) false).run Tryz.prog V = .ok (.slice (some ⟨q, 0, none⟩) 1024 1024) V) := Hid.mk (fun V hO => by
        obtain ⟨y1, y2, y3, y4, y5, y6, y7⟩ := CELL.out V (fun q' hq' => (hO.block q' (by have := HQB.out; omega) (fun e => by have := HQB.out; omega)).trans (HCL5.out q' hq'))
        exact ⟨y1, y2, y3, y4, y5, y6, y7, HMB.out V (hO.block m (by omega) hmq)⟩)
      have HS2 := Hid.mk (HALL.out W5.drew ⟨rfl, rfl, rfl, Nat.le_refl _, fun _ _ _ => rfl⟩)
      have HS6 : Hid (∀ V, Only (fun j => j = q) W5.drew V → _) := Hid.mk (fun V (hO : Only (fun j => j = q) W5.drew V) => HALL.out V ⟨hO.os, hO.tape, hO.output, hO.size, hO.block⟩)
      have HROW : Hid (RAt W5.drew q (zeros 1024)) := Hid.mk (HPT5.out.rows _ hz5).1
      have HDL : Hid ((zeros 1024).length = 1024) := Hid.mk (zeros_length 1024)
      have HSEG : Hid (BAt W5.drew (some (a.add F)) (E - F) ((xs.drop F).take (E - F))) := Hid.mk (HSEG2.out.only (S := fun j => j = m) ⟨ho5.os, ho5.tape, ho5.output, ho5.size, ho5.block⟩ (fun a' e hlt hb => by
        have e2 : a'.block = a.block := by rw [← Option.some.inj e]; exact add_block _ _
        exact HAP.out (by rw [← e2, hb]; exact HFE.out m (by simp))))
      have HEND : Hid (∀ W6, RAt W6 q (splice (zeros 1024) A ((xs.drop F).take (E - F))) → Only (fun j => j = q) W5.drew W6 → W6.heap[w4.heap.size]? = W2.heap[w4.heap.size]? ∧ W6.heap[w4.heap.size + 1]? = W2.heap[w4.heap.size + 1]? ∧ WrI w4 m r off dl xs p (k + 1) W6) := Hid.mk (fun W6 hr ho => by
        have ho2 : Only (fun j => j = q) W5 W6 := ⟨ho.os, ho.tape, ho.output, ho.size, ho.block⟩
        have hsl : (splice (zeros 1024) A ((xs.drop F).take (E - F))).length = 1024 := by
          rw [length_splice _ _ _ (by have h1 := HSEG2.out.1; have h2 := HDL.out; have h3 := HA.out; have h4 := HEF.out; omega)]
          exact HDL.out
        obtain ⟨k1, k2, k3⟩ := HOL.out q W6 (.inr (by omega)) ((ho52.mono (fun i _ hi => Or.inr hi)).trans ho2 (fun i hi => .inl (.inl hi)))
        refine ⟨k1, k2, ⟨putR x q (putP x (zeros 1024) (wrP off dl xs p k)) (putR x q (wrP off dl xs p k) rk), ?_, fun q' hq' => ?_⟩, k3⟩
        · rw [HWR.out, g1]
          have := HPT5.out.turn hz5 hr hsl ho2
          rw [put_put] at this
          exact this
        · have hbig : q ∈ r ∨ w4.heap.size + 2 ≤ q := .inr (by have := HQB.out; omega)
          rcases putR_mem hq' with rfl | h
          · exact hbig
          · rcases putR_mem h with rfl | h
            · exact hbig
            · exact HRK.out _ h)
      have HQQ := Hid.mk hq2
      clear g1 g2 g3 hlk2 hmq hz5 hfl5 hs5 hup hpt5 ho5 ho52 hml2 hq hq2
      gi_wp2_with fail
      refine round_region_held (S := fun W => W.cell? ⟨W1.heap.size, 0, none⟩ = some (.pointer (some ⟨b, 0, none⟩)) ∧ W.cell? ⟨b, 3, none⟩ = some (.map (some m)) ∧ W.cell? ⟨bx, 0, none⟩ = some (.int .i64 x) ∧ (Instr.lookup 60 (.map (some m)) (.int .i64 x) true).run Tryz.prog W = .ok (.tuple #[.slice none 0 0, .bool false]) W) (by kernel_rfl) (by kernel_rfl) HS0.out (fun hH => ?_)
      change wpAnyH Tryz.prog Region.Mode.any _ _ _ 12 _ _ _
      refine takeH 0 66 (.pointer (some ⟨b, 0, none⟩)) rfl (by kernel_rfl) (by kernel_rfl) (by kernel_rfl) (by kernel_rfl) (fun _ _ _ h => h) (by kernel_rfl) (fun w hw => by (try dsimp only at hw); obtain ⟨hw1, hw2, hw3, hw4⟩ := hw; go_simp) hH ?_
      simp only [List.setIfInBounds_toArray, List.set_cons_zero, List.set_cons_succ]
      refine takeH 1 67 (.pointer (some ⟨b, 0, none⟩)) rfl (by kernel_rfl) (by kernel_rfl) (by kernel_rfl) (by kernel_rfl) (fun _ _ _ h => h) (by kernel_rfl) (fun w hw => by (try dsimp only at hw); obtain ⟨hw1, hw2, hw3, hw4⟩ := hw; go_simp) hH ?_
      simp only [List.setIfInBounds_toArray, List.set_cons_zero, List.set_cons_succ]
      refine takeH 2 68 (.pointer (some ⟨b, 3, none⟩)) rfl (by kernel_rfl) (by kernel_rfl) (by kernel_rfl) (by kernel_rfl) (fun _ _ _ h => h) (by kernel_rfl) (fun w hw => by (try dsimp only at hw); obtain ⟨hw1, hw2, hw3, hw4⟩ := hw; go_simp) hH ?_
      simp only [List.setIfInBounds_toArray, List.set_cons_zero, List.set_cons_succ]
      refine takeH 3 69 (.map (some m)) rfl (by kernel_rfl) (by kernel_rfl) (by kernel_rfl) (by kernel_rfl) (fun _ _ _ h => h) (by kernel_rfl) (fun w hw => by (try dsimp only at hw); obtain ⟨hw1, hw2, hw3, hw4⟩ := hw; go_simp) hH ?_
      simp only [List.setIfInBounds_toArray, List.set_cons_zero, List.set_cons_succ]
      refine takeH 4 70 (.pointer (some ⟨bx, 0, none⟩)) rfl (by kernel_rfl) (by kernel_rfl) (by kernel_rfl) (by kernel_rfl) (fun _ _ _ h => h) (by kernel_rfl) (fun w hw => by (try dsimp only at hw); obtain ⟨hw1, hw2, hw3, hw4⟩ := hw; go_simp) hH ?_
      simp only [List.setIfInBounds_toArray, List.set_cons_zero, List.set_cons_succ]
      refine takeH 5 71 (.int .i64 x) rfl (by kernel_rfl) (by kernel_rfl) (by kernel_rfl) (by kernel_rfl) (fun _ _ _ h => h) (by kernel_rfl) (fun w hw => by (try dsimp only at hw); obtain ⟨hw1, hw2, hw3, hw4⟩ := hw; go_simp) hH ?_
      simp only [List.setIfInBounds_toArray, List.set_cons_zero, List.set_cons_succ]
      refine takeH 6 72 (.tuple #[.slice none 0 0, .bool false]) rfl (by kernel_rfl) (by kernel_rfl) (by kernel_rfl) (by kernel_rfl) (fun _ _ _ h => h) (by kernel_rfl) (fun w hw => by (try dsimp only at hw); obtain ⟨hw1, hw2, hw3, hw4⟩ := hw; go_simp) hH ?_
      simp only [List.setIfInBounds_toArray, List.set_cons_zero, List.set_cons_succ]
      refine takeH 7 65 (.tuple #[.slice none 0 0, .bool false]) rfl (by kernel_rfl) (by kernel_rfl) (by kernel_rfl) (by kernel_rfl) (fun _ _ _ h => h) (by kernel_rfl) (fun w hw => by kernel_rfl) hH ?_
      simp only [List.setIfInBounds_toArray, List.set_cons_zero, List.set_cons_succ]
      refine takeH 8 73 (.slice none 0 0) rfl (by kernel_rfl) (by kernel_rfl) (by kernel_rfl) (by kernel_rfl) (fun _ _ _ h => h) (by kernel_rfl) (fun w hw => by (try dsimp only at hw); obtain ⟨hw1, hw2, hw3, hw4⟩ := hw; go_simp) hH ?_
      simp only [List.setIfInBounds_toArray, List.set_cons_zero, List.set_cons_succ]
      refine takeH 9 74 (.bool false) rfl (by kernel_rfl) (by kernel_rfl) (by kernel_rfl) (by kernel_rfl) (fun _ _ _ h => h) (by kernel_rfl) (fun w hw => by (try dsimp only at hw); obtain ⟨hw1, hw2, hw3, hw4⟩ := hw; go_simp) hH ?_
      simp only [List.setIfInBounds_toArray, List.set_cons_zero, List.set_cons_succ]
      refine takeH 10 9 (.slice none 0 0) rfl (by kernel_rfl) (by kernel_rfl) (by kernel_rfl) (by kernel_rfl) (fun _ _ _ h => h) (by kernel_rfl) (fun w hw => by kernel_rfl) hH ?_
      simp only [List.setIfInBounds_toArray, List.set_cons_zero, List.set_cons_succ]
      refine takeH 11 10 (.bool false) rfl (by kernel_rfl) (by kernel_rfl) (by kernel_rfl) (by kernel_rfl) (fun _ _ _ h => h) (by kernel_rfl) (fun w hw => by kernel_rfl) hH ?_
      simp only [List.setIfInBounds_toArray, List.set_cons_zero, List.set_cons_succ]
      refine wpAnyH_done (by kernel_rfl) ?_ _
      dsimp only [Norm]
      clear hH HS0
      gi_wp2_with fail
      refine round_region_held (S := fun W => W.cell? ⟨W1.heap.size, 0, none⟩ = some (.pointer (some ⟨b, 0, none⟩)) ∧ W.cell? ⟨b, 3, none⟩ = some (.map (some m)) ∧ W.cell? ⟨bx, 0, none⟩ = some (.int .i64 x)) (by kernel_rfl) (by kernel_rfl) HS1.out (fun hH => ?_)
      change wpAnyH Tryz.prog Region.Mode.any _ _ _ 8 _ _ _
      refine takeH 0 77 (.pointer (some ⟨b, 0, none⟩)) rfl (by kernel_rfl) (by kernel_rfl) (by kernel_rfl) (by kernel_rfl) (fun _ _ _ h => h) (by kernel_rfl) (fun w hw => by (try dsimp only at hw); obtain ⟨hw1, hw2, hw3⟩ := hw; go_simp) hH ?_
      simp only [List.setIfInBounds_toArray, List.set_cons_zero, List.set_cons_succ]
      refine takeH 1 78 (.pointer (some ⟨b, 0, none⟩)) rfl (by kernel_rfl) (by kernel_rfl) (by kernel_rfl) (by kernel_rfl) (fun _ _ _ h => h) (by kernel_rfl) (fun w hw => by (try dsimp only at hw); obtain ⟨hw1, hw2, hw3⟩ := hw; go_simp) hH ?_
      simp only [List.setIfInBounds_toArray, List.set_cons_zero, List.set_cons_succ]
      refine takeH 2 79 (.pointer (some ⟨b, 3, none⟩)) rfl (by kernel_rfl) (by kernel_rfl) (by kernel_rfl) (by kernel_rfl) (fun _ _ _ h => h) (by kernel_rfl) (fun w hw => by (try dsimp only at hw); obtain ⟨hw1, hw2, hw3⟩ := hw; go_simp) hH ?_
      simp only [List.setIfInBounds_toArray, List.set_cons_zero, List.set_cons_succ]
      refine takeH 3 80 (.map (some m)) rfl (by kernel_rfl) (by kernel_rfl) (by kernel_rfl) (by kernel_rfl) (fun _ _ _ h => h) (by kernel_rfl) (fun w hw => by (try dsimp only at hw); obtain ⟨hw1, hw2, hw3⟩ := hw; go_simp) hH ?_
      simp only [List.setIfInBounds_toArray, List.set_cons_zero, List.set_cons_succ]
      refine takeH 4 81 (.pointer (some ⟨bx, 0, none⟩)) rfl (by kernel_rfl) (by kernel_rfl) (by kernel_rfl) (by kernel_rfl) (fun _ _ _ h => h) (by kernel_rfl) (fun w hw => by (try dsimp only at hw); obtain ⟨hw1, hw2, hw3⟩ := hw; go_simp) hH ?_
      simp only [List.setIfInBounds_toArray, List.set_cons_zero, List.set_cons_succ]
      refine takeH 5 82 (.int .i64 x) rfl (by kernel_rfl) (by kernel_rfl) (by kernel_rfl) (by kernel_rfl) (fun _ _ _ h => h) (by kernel_rfl) (fun w hw => by (try dsimp only at hw); obtain ⟨hw1, hw2, hw3⟩ := hw; go_simp) hH ?_
      simp only [List.setIfInBounds_toArray, List.set_cons_zero, List.set_cons_succ]
      refine stepH_run 6 83 (.slice (some ⟨W2.drew.drew.heap.size, 0, none⟩) 1024 1024) (W2.drew.drew.alloc (.cells (By (zeros 1024)).toArray 5)) rfl (by kernel_rfl) (by kernel_rfl) (by kernel_rfl) (exec_mk rfl (by kernel_rfl) (by kernel_rfl) (by exact make_run _ 1024 (by omega))) HSA.out ?_
      simp only [List.setIfInBounds_toArray, List.set_cons_zero, List.set_cons_succ]
      refine stepH_one 7 (by kernel_rfl) ?_
      refine opH_store 7 W5 rfl (by kernel_rfl) (by kernel_rfl) (exec_upd (m := .tmp 80) (k := .tmp 82) (v := .tmp 83) rfl (by kernel_rfl) (by kernel_rfl) (by kernel_rfl) HUP.out) HSU.out ?_
      refine wpAnyH_done (by kernel_rfl) ?_ _
      dsimp only [Norm]
      clear hH HS1
      try rw [HQQ.out]
      gi_wp2_with fail
      refine round_region_held (S := fun W => W.cell? ⟨W1.heap.size, 0, none⟩ = some (.pointer (some ⟨b, 0, none⟩)) ∧ W.cell? ⟨b, 3, none⟩ = some (.map (some m)) ∧ W.cell? ⟨bx, 0, none⟩ = some (.int .i64 x) ∧ W.cell? ⟨bx, 1, none⟩ = some (.int .i64 (A : Int)) ∧ W.cell? ⟨bx, 2, none⟩ = some (.int .i64 (F : Int)) ∧ W.cell? ⟨bx, 3, none⟩ = some (.int .i64 (E : Int)) ∧ W.cell? ⟨w.heap.size, 5, none⟩ = some (.slice (some a) dl dc) ∧ (Instr.lookup 60 (.map (some m)) (.int .i64 x) false).run Tryz.prog W = .ok (.slice (some ⟨q, 0, none⟩) 1024 1024) W) (by kernel_rfl) (by kernel_rfl) HS2.out (fun hH => ?_)
      change wpAnyH Tryz.prog Region.Mode.any _ _ _ 18 _ _ _
      refine takeH 0 84 (.pointer (some ⟨b, 0, none⟩)) rfl (by kernel_rfl) (by kernel_rfl) (by kernel_rfl) (by kernel_rfl) (fun _ _ _ h => h) (by kernel_rfl) (fun w hw => by (try dsimp only at hw); obtain ⟨hw1, hw2, hw3, hw4, hw5, hw6, hw7, hw8⟩ := hw; go_simp) hH ?_
      simp only [List.setIfInBounds_toArray, List.set_cons_zero, List.set_cons_succ]
      refine takeH 1 85 (.pointer (some ⟨b, 0, none⟩)) rfl (by kernel_rfl) (by kernel_rfl) (by kernel_rfl) (by kernel_rfl) (fun _ _ _ h => h) (by kernel_rfl) (fun w hw => by (try dsimp only at hw); obtain ⟨hw1, hw2, hw3, hw4, hw5, hw6, hw7, hw8⟩ := hw; go_simp) hH ?_
      simp only [List.setIfInBounds_toArray, List.set_cons_zero, List.set_cons_succ]
      refine takeH 2 86 (.pointer (some ⟨b, 3, none⟩)) rfl (by kernel_rfl) (by kernel_rfl) (by kernel_rfl) (by kernel_rfl) (fun _ _ _ h => h) (by kernel_rfl) (fun w hw => by (try dsimp only at hw); obtain ⟨hw1, hw2, hw3, hw4, hw5, hw6, hw7, hw8⟩ := hw; go_simp) hH ?_
      simp only [List.setIfInBounds_toArray, List.set_cons_zero, List.set_cons_succ]
      refine takeH 3 87 (.map (some m)) rfl (by kernel_rfl) (by kernel_rfl) (by kernel_rfl) (by kernel_rfl) (fun _ _ _ h => h) (by kernel_rfl) (fun w hw => by (try dsimp only at hw); obtain ⟨hw1, hw2, hw3, hw4, hw5, hw6, hw7, hw8⟩ := hw; go_simp) hH ?_
      simp only [List.setIfInBounds_toArray, List.set_cons_zero, List.set_cons_succ]
      refine takeH 4 88 (.pointer (some ⟨bx, 0, none⟩)) rfl (by kernel_rfl) (by kernel_rfl) (by kernel_rfl) (by kernel_rfl) (fun _ _ _ h => h) (by kernel_rfl) (fun w hw => by (try dsimp only at hw); obtain ⟨hw1, hw2, hw3, hw4, hw5, hw6, hw7, hw8⟩ := hw; go_simp) hH ?_
      simp only [List.setIfInBounds_toArray, List.set_cons_zero, List.set_cons_succ]
      refine takeH 5 89 (.int .i64 x) rfl (by kernel_rfl) (by kernel_rfl) (by kernel_rfl) (by kernel_rfl) (fun _ _ _ h => h) (by kernel_rfl) (fun w hw => by (try dsimp only at hw); obtain ⟨hw1, hw2, hw3, hw4, hw5, hw6, hw7, hw8⟩ := hw; go_simp) hH ?_
      simp only [List.setIfInBounds_toArray, List.set_cons_zero, List.set_cons_succ]
      refine takeH 6 90 (.slice (some ⟨q, 0, none⟩) 1024 1024) rfl (by kernel_rfl) (by kernel_rfl) (by kernel_rfl) (by kernel_rfl) (fun _ _ _ h => h) (by kernel_rfl) (fun w hw => by (try dsimp only at hw); obtain ⟨hw1, hw2, hw3, hw4, hw5, hw6, hw7, hw8⟩ := hw; go_simp) hH ?_
      simp only [List.setIfInBounds_toArray, List.set_cons_zero, List.set_cons_succ]
      refine takeH 7 91 (.pointer (some ⟨bx, 1, none⟩)) rfl (by kernel_rfl) (by kernel_rfl) (by kernel_rfl) (by kernel_rfl) (fun _ _ _ h => h) (by kernel_rfl) (fun w hw => by (try dsimp only at hw); obtain ⟨hw1, hw2, hw3, hw4, hw5, hw6, hw7, hw8⟩ := hw; go_simp) hH ?_
      simp only [List.setIfInBounds_toArray, List.set_cons_zero, List.set_cons_succ]
      refine takeH 8 92 (.int .i64 (A : Int)) rfl (by kernel_rfl) (by kernel_rfl) (by kernel_rfl) (by kernel_rfl) (fun _ _ _ h => h) (by kernel_rfl) (fun w hw => by (try dsimp only at hw); obtain ⟨hw1, hw2, hw3, hw4, hw5, hw6, hw7, hw8⟩ := hw; go_simp) hH ?_
      simp only [List.setIfInBounds_toArray, List.set_cons_zero, List.set_cons_succ]
      refine takeH 9 93 (.slice (some ⟨q, A, none⟩) (1024 - A) (1024 - A)) rfl (by kernel_rfl) (by kernel_rfl) (by kernel_rfl) (by kernel_rfl) (fun _ _ _ h => h) (by kernel_rfl) (fun w hw => by exact exec_sl1 (s := .tmp 90) (y := .tmp 92) q A HA.out rfl (by kernel_rfl) (by kernel_rfl)) hH ?_
      simp only [List.setIfInBounds_toArray, List.set_cons_zero, List.set_cons_succ]
      refine takeH 10 94 (.pointer (some ⟨w.heap.size, 5, none⟩)) rfl (by kernel_rfl) (by kernel_rfl) (by kernel_rfl) (by kernel_rfl) (fun _ _ _ h => h) (by kernel_rfl) (fun w hw => by (try dsimp only at hw); obtain ⟨hw1, hw2, hw3, hw4, hw5, hw6, hw7, hw8⟩ := hw; go_simp) hH ?_
      simp only [List.setIfInBounds_toArray, List.set_cons_zero, List.set_cons_succ]
      refine takeH 11 95 (.slice (some a) dl dc) rfl (by kernel_rfl) (by kernel_rfl) (by kernel_rfl) (by kernel_rfl) (fun _ _ _ h => h) (by kernel_rfl) (fun w hw => by (try dsimp only at hw); obtain ⟨hw1, hw2, hw3, hw4, hw5, hw6, hw7, hw8⟩ := hw; go_simp) hH ?_
      simp only [List.setIfInBounds_toArray, List.set_cons_zero, List.set_cons_succ]
      refine takeH 12 96 (.pointer (some ⟨bx, 2, none⟩)) rfl (by kernel_rfl) (by kernel_rfl) (by kernel_rfl) (by kernel_rfl) (fun _ _ _ h => h) (by kernel_rfl) (fun w hw => by (try dsimp only at hw); obtain ⟨hw1, hw2, hw3, hw4, hw5, hw6, hw7, hw8⟩ := hw; go_simp) hH ?_
      simp only [List.setIfInBounds_toArray, List.set_cons_zero, List.set_cons_succ]
      refine takeH 13 97 (.int .i64 (F : Int)) rfl (by kernel_rfl) (by kernel_rfl) (by kernel_rfl) (by kernel_rfl) (fun _ _ _ h => h) (by kernel_rfl) (fun w hw => by (try dsimp only at hw); obtain ⟨hw1, hw2, hw3, hw4, hw5, hw6, hw7, hw8⟩ := hw; go_simp) hH ?_
      simp only [List.setIfInBounds_toArray, List.set_cons_zero, List.set_cons_succ]
      refine takeH 14 98 (.pointer (some ⟨bx, 3, none⟩)) rfl (by kernel_rfl) (by kernel_rfl) (by kernel_rfl) (by kernel_rfl) (fun _ _ _ h => h) (by kernel_rfl) (fun w hw => by (try dsimp only at hw); obtain ⟨hw1, hw2, hw3, hw4, hw5, hw6, hw7, hw8⟩ := hw; go_simp) hH ?_
      simp only [List.setIfInBounds_toArray, List.set_cons_zero, List.set_cons_succ]
      refine takeH 15 99 (.int .i64 (E : Int)) rfl (by kernel_rfl) (by kernel_rfl) (by kernel_rfl) (by kernel_rfl) (fun _ _ _ h => h) (by kernel_rfl) (fun w hw => by (try dsimp only at hw); obtain ⟨hw1, hw2, hw3, hw4, hw5, hw6, hw7, hw8⟩ := hw; go_simp) hH ?_
      simp only [List.setIfInBounds_toArray, List.set_cons_zero, List.set_cons_succ]
      refine takeH 16 100 (.slice (some (a.add F)) (E - F) (dc - F)) rfl (by kernel_rfl) (by kernel_rfl) (by kernel_rfl) (by kernel_rfl) (fun _ _ _ h => h) (by kernel_rfl) (fun w hw => by exact exec_sl2 (s := .tmp 95) (y := .tmp 97) (z := .tmp 99) a dl dc F E HF.out rfl (by kernel_rfl) (by kernel_rfl) (by kernel_rfl)) hH ?_
      simp only [List.setIfInBounds_toArray, List.set_cons_zero, List.set_cons_succ]
      obtain ⟨W6, hcp, hr6, ho6⟩ := copyb_run W5.drew q A (1024 - A) (1024 - A) (zeros 1024) ((xs.drop F).take (E - F)) (a.add F) (E - F) (dc - F) HROW.out HSEG.out (by have := HDL.out; have := HA.out; omega) (by have := HF.out; have := HEF.out; omega)
      refine stepH_one 17 (by kernel_rfl) ?_
      refine opH_run 17 101 (.int .i64 ((E - F : Nat) : Int)) W6 rfl (by kernel_rfl) (by kernel_rfl) (exec_cpy (d := .tmp 93) (x := .tmp 100) rfl (by kernel_rfl) (by kernel_rfl) hcp) (HS6.out W6 ho6) ?_
      simp only [List.setIfInBounds_toArray, List.set_cons_zero, List.set_cons_succ]
      refine wpAnyH_done (by kernel_rfl) ?_ _
      dsimp only [Norm]
      have HFIN := Hid.mk (HEND.out W6 hr6 ho6)
      clear hH hcp hr6 ho6
      gi_wp2_with fail
      rw [← HS4.out]
      exact HFIN.out
    · have hlk2 : (Instr.lookup 60 (.map (some m)) (.int .i64 x) true).run Tryz.prog W2.drew = .ok (.tuple #[.slice (some ⟨q, 0, none⟩) 1024 1024, .bool true]) W2.drew := by
        have := (HPT2.out.kept (W' := W2.drew) (fun _ _ => rfl)).blocks.look2 keyed3 Tryz.underlying60 (zero_bytes W2.drew) (Maps.keyOf_int_mk Tryz.underlying3 (okI_of (a := x) (by have := HXB.out; omega) (by have := HXB.out; omega)))
        rw [g3] at this
        exact this
      have hqrk : q ∈ rk := (List.of_mem_zip g4).2
      have HS0 : Hid (W2.drew.cell? ⟨W1.heap.size, 0, none⟩ = some (.pointer (some ⟨b, 0, none⟩)) ∧ W2.drew.cell? ⟨b, 3, none⟩ = some (.map (some m)) ∧ W2.drew.cell? ⟨bx, 0, none⟩ = some (.int .i64 x) ∧ (Instr.lookup 60 (.map (some m)) (.int .i64 x) true).run Tryz.prog W2.drew = .ok (.tuple #[.slice (some ⟨q, 0, none⟩) 1024 1024, .bool true]) W2.drew) := Hid.mk (by
        obtain ⟨y1, y2, y3, -⟩ := CELL.out W2.drew (fun _ _ => rfl)
        exact ⟨y1, y2, y3, hlk2⟩)
      have HLK : Hid (∀ V : World, PtAt V m rk (wrP off dl xs p k) → (Instr.lookup 60 (.map (some m)) (.int .i64 x) false).run Tryz.prog V = .ok (.slice (some ⟨q, 0, none⟩) 1024 1024) V) := Hid.mk (fun V hV => by
        have := hV.blocks.look keyed3 Tryz.underlying60 (zero_bytes V) (Maps.keyOf_int_mk Tryz.underlying3 (okI_of (a := x) (by have := HXB.out; omega) (by have := HXB.out; omega)))
        rw [g3] at this
        exact this)
      have HMB : Hid (∀ V : World, V.heap[m]? = W2.heap[m]? → (Instr.lookup 60 (.map (some m)) (.int .i64 x) false).run Tryz.prog V = .ok (.slice (some ⟨q, 0, none⟩) 1024 1024) V) := Hid.mk (fun V hV => by
        have := (HPT2.out.blocks.kept hV).look keyed3 Tryz.underlying60 (zero_bytes V) (Maps.keyOf_int_mk Tryz.underlying3 (okI_of (a := x) (by have := HXB.out; omega) (by have := HXB.out; omega)))
        rw [g3] at this
        exact this)
      have hmq : m ≠ q := fun e => (List.nodup_cons.1 HPT2.out.nd).1 (e ▸ hqrk)
      have HALL : Hid (∀ V : World, Only (fun j => j = q) W2 V → V.cell? ⟨W1.heap.size, 0, none⟩ = some (.pointer (some ⟨b, 0, none⟩)) ∧ V.cell? ⟨b, 3, none⟩ = some (.map (some m)) ∧ V.cell? ⟨bx, 0, none⟩ = some (.int .i64 x) ∧ V.cell? ⟨bx, 1, none⟩ = some (.int .i64 (A : Int)) ∧ V.cell? ⟨bx, 2, none⟩ = some (.int .i64 (F : Int)) ∧ V.cell? ⟨bx, 3, none⟩ = some (.int .i64 (E : Int)) ∧ V.cell? ⟨w.heap.size, 5, none⟩ = some (.slice (some a) dl dc) ∧ (Instr.lookup 60 (.map (some m)) (.int .i64 x) false).run Tryz.prog V = .ok (.slice (some ⟨q, 0, none⟩) 1024 1024) V) := Hid.mk (fun V hO => by
        obtain ⟨y1, y2, y3, y4, y5, y6, y7⟩ := CELL.out V (fun q' hq' => hO.block q' (by have := HQB.out; omega) (fun e => HAPW.out q' hq' q (by simp [hqrk]) e))
        exact ⟨y1, y2, y3, y4, y5, y6, y7, HMB.out V (hO.block m HPT2.out.blocks.lt hmq)⟩)
      have HS2 := Hid.mk (HALL.out W2.drew.drew ⟨rfl, rfl, rfl, Nat.le_refl _, fun _ _ _ => rfl⟩)
      have HS6 : Hid (∀ V, Only (fun j => j = q) W2.drew.drew V → _) := Hid.mk (fun V (hO : Only (fun j => j = q) W2.drew.drew V) => HALL.out V ⟨hO.os, hO.tape, hO.output, hO.size, hO.block⟩)
      have HROW : Hid (RAt W2.drew.drew q d) := Hid.mk (HPT2.out.rows _ g4).1
      have HDL : Hid (d.length = 1024) := Hid.mk (HPT2.out.rows _ g4).2
      have HSEG : Hid (BAt W2.drew.drew (some (a.add F)) (E - F) ((xs.drop F).take (E - F))) := Hid.mk HSEG2.out
      have HEND : Hid (∀ W6, RAt W6 q (splice d A ((xs.drop F).take (E - F))) → Only (fun j => j = q) W2.drew.drew W6 → W6.heap[w4.heap.size]? = W2.heap[w4.heap.size]? ∧ W6.heap[w4.heap.size + 1]? = W2.heap[w4.heap.size + 1]? ∧ WrI w4 m r off dl xs p (k + 1) W6) := Hid.mk (fun W6 hr ho => by
        have ho2 : Only (fun j => j = q) W2 W6 := ⟨ho.os, ho.tape, ho.output, ho.size, ho.block⟩
        have hsl : (splice d A ((xs.drop F).take (E - F))).length = 1024 := by
          rw [length_splice _ _ _ (by have h1 := HSEG2.out.1; have h2 := HDL.out; have h3 := HA.out; have h4 := HEF.out; omega)]
          exact HDL.out
        obtain ⟨k1, k2, k3⟩ := HOL.out q W6 (.inl hqrk) (ho2.mono (fun i _ hi => .inl hi))
        refine ⟨k1, k2, ⟨putR x q (wrP off dl xs p k) rk, ?_, fun q' hq' => ?_⟩, k3⟩
        · rw [HWR.out, g1]
          exact HPT2.out.turn g4 hr hsl ho2
        · rcases putR_mem hq' with rfl | h
          · exact HRK.out _ hqrk
          · exact HRK.out _ h)
      clear g1 g2 g3 g4 hlk2 hqrk hmq
      gi_wp2_with fail
      refine round_region_held (S := fun W => W.cell? ⟨W1.heap.size, 0, none⟩ = some (.pointer (some ⟨b, 0, none⟩)) ∧ W.cell? ⟨b, 3, none⟩ = some (.map (some m)) ∧ W.cell? ⟨bx, 0, none⟩ = some (.int .i64 x) ∧ (Instr.lookup 60 (.map (some m)) (.int .i64 x) true).run Tryz.prog W = .ok (.tuple #[.slice (some ⟨q, 0, none⟩) 1024 1024, .bool true]) W) (by kernel_rfl) (by kernel_rfl) HS0.out (fun hH => ?_)
      change wpAnyH Tryz.prog Region.Mode.any _ _ _ 12 _ _ _
      refine takeH 0 66 (.pointer (some ⟨b, 0, none⟩)) rfl (by kernel_rfl) (by kernel_rfl) (by kernel_rfl) (by kernel_rfl) (fun _ _ _ h => h) (by kernel_rfl) (fun w hw => by (try dsimp only at hw); obtain ⟨hw1, hw2, hw3, hw4⟩ := hw; go_simp) hH ?_
      simp only [List.setIfInBounds_toArray, List.set_cons_zero, List.set_cons_succ]
      refine takeH 1 67 (.pointer (some ⟨b, 0, none⟩)) rfl (by kernel_rfl) (by kernel_rfl) (by kernel_rfl) (by kernel_rfl) (fun _ _ _ h => h) (by kernel_rfl) (fun w hw => by (try dsimp only at hw); obtain ⟨hw1, hw2, hw3, hw4⟩ := hw; go_simp) hH ?_
      simp only [List.setIfInBounds_toArray, List.set_cons_zero, List.set_cons_succ]
      refine takeH 2 68 (.pointer (some ⟨b, 3, none⟩)) rfl (by kernel_rfl) (by kernel_rfl) (by kernel_rfl) (by kernel_rfl) (fun _ _ _ h => h) (by kernel_rfl) (fun w hw => by (try dsimp only at hw); obtain ⟨hw1, hw2, hw3, hw4⟩ := hw; go_simp) hH ?_
      simp only [List.setIfInBounds_toArray, List.set_cons_zero, List.set_cons_succ]
      refine takeH 3 69 (.map (some m)) rfl (by kernel_rfl) (by kernel_rfl) (by kernel_rfl) (by kernel_rfl) (fun _ _ _ h => h) (by kernel_rfl) (fun w hw => by (try dsimp only at hw); obtain ⟨hw1, hw2, hw3, hw4⟩ := hw; go_simp) hH ?_
      simp only [List.setIfInBounds_toArray, List.set_cons_zero, List.set_cons_succ]
      refine takeH 4 70 (.pointer (some ⟨bx, 0, none⟩)) rfl (by kernel_rfl) (by kernel_rfl) (by kernel_rfl) (by kernel_rfl) (fun _ _ _ h => h) (by kernel_rfl) (fun w hw => by (try dsimp only at hw); obtain ⟨hw1, hw2, hw3, hw4⟩ := hw; go_simp) hH ?_
      simp only [List.setIfInBounds_toArray, List.set_cons_zero, List.set_cons_succ]
      refine takeH 5 71 (.int .i64 x) rfl (by kernel_rfl) (by kernel_rfl) (by kernel_rfl) (by kernel_rfl) (fun _ _ _ h => h) (by kernel_rfl) (fun w hw => by (try dsimp only at hw); obtain ⟨hw1, hw2, hw3, hw4⟩ := hw; go_simp) hH ?_
      simp only [List.setIfInBounds_toArray, List.set_cons_zero, List.set_cons_succ]
      refine takeH 6 72 (.tuple #[.slice (some ⟨q, 0, none⟩) 1024 1024, .bool true]) rfl (by kernel_rfl) (by kernel_rfl) (by kernel_rfl) (by kernel_rfl) (fun _ _ _ h => h) (by kernel_rfl) (fun w hw => by (try dsimp only at hw); obtain ⟨hw1, hw2, hw3, hw4⟩ := hw; go_simp) hH ?_
      simp only [List.setIfInBounds_toArray, List.set_cons_zero, List.set_cons_succ]
      refine takeH 7 65 (.tuple #[.slice (some ⟨q, 0, none⟩) 1024 1024, .bool true]) rfl (by kernel_rfl) (by kernel_rfl) (by kernel_rfl) (by kernel_rfl) (fun _ _ _ h => h) (by kernel_rfl) (fun w hw => by kernel_rfl) hH ?_
      simp only [List.setIfInBounds_toArray, List.set_cons_zero, List.set_cons_succ]
      refine takeH 8 73 (.slice (some ⟨q, 0, none⟩) 1024 1024) rfl (by kernel_rfl) (by kernel_rfl) (by kernel_rfl) (by kernel_rfl) (fun _ _ _ h => h) (by kernel_rfl) (fun w hw => by (try dsimp only at hw); obtain ⟨hw1, hw2, hw3, hw4⟩ := hw; go_simp) hH ?_
      simp only [List.setIfInBounds_toArray, List.set_cons_zero, List.set_cons_succ]
      refine takeH 9 74 (.bool true) rfl (by kernel_rfl) (by kernel_rfl) (by kernel_rfl) (by kernel_rfl) (fun _ _ _ h => h) (by kernel_rfl) (fun w hw => by (try dsimp only at hw); obtain ⟨hw1, hw2, hw3, hw4⟩ := hw; go_simp) hH ?_
      simp only [List.setIfInBounds_toArray, List.set_cons_zero, List.set_cons_succ]
      refine takeH 10 9 (.slice (some ⟨q, 0, none⟩) 1024 1024) rfl (by kernel_rfl) (by kernel_rfl) (by kernel_rfl) (by kernel_rfl) (fun _ _ _ h => h) (by kernel_rfl) (fun w hw => by kernel_rfl) hH ?_
      simp only [List.setIfInBounds_toArray, List.set_cons_zero, List.set_cons_succ]
      refine takeH 11 10 (.bool true) rfl (by kernel_rfl) (by kernel_rfl) (by kernel_rfl) (by kernel_rfl) (fun _ _ _ h => h) (by kernel_rfl) (fun w hw => by kernel_rfl) hH ?_
      simp only [List.setIfInBounds_toArray, List.set_cons_zero, List.set_cons_succ]
      refine wpAnyH_done (by kernel_rfl) ?_ _
      dsimp only [Norm]
      clear hH HS0
      gi_wp2_with fail
      refine round_region_held (S := fun W => W.cell? ⟨W1.heap.size, 0, none⟩ = some (.pointer (some ⟨b, 0, none⟩)) ∧ W.cell? ⟨b, 3, none⟩ = some (.map (some m)) ∧ W.cell? ⟨bx, 0, none⟩ = some (.int .i64 x) ∧ W.cell? ⟨bx, 1, none⟩ = some (.int .i64 (A : Int)) ∧ W.cell? ⟨bx, 2, none⟩ = some (.int .i64 (F : Int)) ∧ W.cell? ⟨bx, 3, none⟩ = some (.int .i64 (E : Int)) ∧ W.cell? ⟨w.heap.size, 5, none⟩ = some (.slice (some a) dl dc) ∧ (Instr.lookup 60 (.map (some m)) (.int .i64 x) false).run Tryz.prog W = .ok (.slice (some ⟨q, 0, none⟩) 1024 1024) W) (by kernel_rfl) (by kernel_rfl) HS2.out (fun hH => ?_)
      change wpAnyH Tryz.prog Region.Mode.any _ _ _ 18 _ _ _
      refine takeH 0 84 (.pointer (some ⟨b, 0, none⟩)) rfl (by kernel_rfl) (by kernel_rfl) (by kernel_rfl) (by kernel_rfl) (fun _ _ _ h => h) (by kernel_rfl) (fun w hw => by (try dsimp only at hw); obtain ⟨hw1, hw2, hw3, hw4, hw5, hw6, hw7, hw8⟩ := hw; go_simp) hH ?_
      simp only [List.setIfInBounds_toArray, List.set_cons_zero, List.set_cons_succ]
      refine takeH 1 85 (.pointer (some ⟨b, 0, none⟩)) rfl (by kernel_rfl) (by kernel_rfl) (by kernel_rfl) (by kernel_rfl) (fun _ _ _ h => h) (by kernel_rfl) (fun w hw => by (try dsimp only at hw); obtain ⟨hw1, hw2, hw3, hw4, hw5, hw6, hw7, hw8⟩ := hw; go_simp) hH ?_
      simp only [List.setIfInBounds_toArray, List.set_cons_zero, List.set_cons_succ]
      refine takeH 2 86 (.pointer (some ⟨b, 3, none⟩)) rfl (by kernel_rfl) (by kernel_rfl) (by kernel_rfl) (by kernel_rfl) (fun _ _ _ h => h) (by kernel_rfl) (fun w hw => by (try dsimp only at hw); obtain ⟨hw1, hw2, hw3, hw4, hw5, hw6, hw7, hw8⟩ := hw; go_simp) hH ?_
      simp only [List.setIfInBounds_toArray, List.set_cons_zero, List.set_cons_succ]
      refine takeH 3 87 (.map (some m)) rfl (by kernel_rfl) (by kernel_rfl) (by kernel_rfl) (by kernel_rfl) (fun _ _ _ h => h) (by kernel_rfl) (fun w hw => by (try dsimp only at hw); obtain ⟨hw1, hw2, hw3, hw4, hw5, hw6, hw7, hw8⟩ := hw; go_simp) hH ?_
      simp only [List.setIfInBounds_toArray, List.set_cons_zero, List.set_cons_succ]
      refine takeH 4 88 (.pointer (some ⟨bx, 0, none⟩)) rfl (by kernel_rfl) (by kernel_rfl) (by kernel_rfl) (by kernel_rfl) (fun _ _ _ h => h) (by kernel_rfl) (fun w hw => by (try dsimp only at hw); obtain ⟨hw1, hw2, hw3, hw4, hw5, hw6, hw7, hw8⟩ := hw; go_simp) hH ?_
      simp only [List.setIfInBounds_toArray, List.set_cons_zero, List.set_cons_succ]
      refine takeH 5 89 (.int .i64 x) rfl (by kernel_rfl) (by kernel_rfl) (by kernel_rfl) (by kernel_rfl) (fun _ _ _ h => h) (by kernel_rfl) (fun w hw => by (try dsimp only at hw); obtain ⟨hw1, hw2, hw3, hw4, hw5, hw6, hw7, hw8⟩ := hw; go_simp) hH ?_
      simp only [List.setIfInBounds_toArray, List.set_cons_zero, List.set_cons_succ]
      refine takeH 6 90 (.slice (some ⟨q, 0, none⟩) 1024 1024) rfl (by kernel_rfl) (by kernel_rfl) (by kernel_rfl) (by kernel_rfl) (fun _ _ _ h => h) (by kernel_rfl) (fun w hw => by (try dsimp only at hw); obtain ⟨hw1, hw2, hw3, hw4, hw5, hw6, hw7, hw8⟩ := hw; go_simp) hH ?_
      simp only [List.setIfInBounds_toArray, List.set_cons_zero, List.set_cons_succ]
      refine takeH 7 91 (.pointer (some ⟨bx, 1, none⟩)) rfl (by kernel_rfl) (by kernel_rfl) (by kernel_rfl) (by kernel_rfl) (fun _ _ _ h => h) (by kernel_rfl) (fun w hw => by (try dsimp only at hw); obtain ⟨hw1, hw2, hw3, hw4, hw5, hw6, hw7, hw8⟩ := hw; go_simp) hH ?_
      simp only [List.setIfInBounds_toArray, List.set_cons_zero, List.set_cons_succ]
      refine takeH 8 92 (.int .i64 (A : Int)) rfl (by kernel_rfl) (by kernel_rfl) (by kernel_rfl) (by kernel_rfl) (fun _ _ _ h => h) (by kernel_rfl) (fun w hw => by (try dsimp only at hw); obtain ⟨hw1, hw2, hw3, hw4, hw5, hw6, hw7, hw8⟩ := hw; go_simp) hH ?_
      simp only [List.setIfInBounds_toArray, List.set_cons_zero, List.set_cons_succ]
      refine takeH 9 93 (.slice (some ⟨q, A, none⟩) (1024 - A) (1024 - A)) rfl (by kernel_rfl) (by kernel_rfl) (by kernel_rfl) (by kernel_rfl) (fun _ _ _ h => h) (by kernel_rfl) (fun w hw => by exact exec_sl1 (s := .tmp 90) (y := .tmp 92) q A HA.out rfl (by kernel_rfl) (by kernel_rfl)) hH ?_
      simp only [List.setIfInBounds_toArray, List.set_cons_zero, List.set_cons_succ]
      refine takeH 10 94 (.pointer (some ⟨w.heap.size, 5, none⟩)) rfl (by kernel_rfl) (by kernel_rfl) (by kernel_rfl) (by kernel_rfl) (fun _ _ _ h => h) (by kernel_rfl) (fun w hw => by (try dsimp only at hw); obtain ⟨hw1, hw2, hw3, hw4, hw5, hw6, hw7, hw8⟩ := hw; go_simp) hH ?_
      simp only [List.setIfInBounds_toArray, List.set_cons_zero, List.set_cons_succ]
      refine takeH 11 95 (.slice (some a) dl dc) rfl (by kernel_rfl) (by kernel_rfl) (by kernel_rfl) (by kernel_rfl) (fun _ _ _ h => h) (by kernel_rfl) (fun w hw => by (try dsimp only at hw); obtain ⟨hw1, hw2, hw3, hw4, hw5, hw6, hw7, hw8⟩ := hw; go_simp) hH ?_
      simp only [List.setIfInBounds_toArray, List.set_cons_zero, List.set_cons_succ]
      refine takeH 12 96 (.pointer (some ⟨bx, 2, none⟩)) rfl (by kernel_rfl) (by kernel_rfl) (by kernel_rfl) (by kernel_rfl) (fun _ _ _ h => h) (by kernel_rfl) (fun w hw => by (try dsimp only at hw); obtain ⟨hw1, hw2, hw3, hw4, hw5, hw6, hw7, hw8⟩ := hw; go_simp) hH ?_
      simp only [List.setIfInBounds_toArray, List.set_cons_zero, List.set_cons_succ]
      refine takeH 13 97 (.int .i64 (F : Int)) rfl (by kernel_rfl) (by kernel_rfl) (by kernel_rfl) (by kernel_rfl) (fun _ _ _ h => h) (by kernel_rfl) (fun w hw => by (try dsimp only at hw); obtain ⟨hw1, hw2, hw3, hw4, hw5, hw6, hw7, hw8⟩ := hw; go_simp) hH ?_
      simp only [List.setIfInBounds_toArray, List.set_cons_zero, List.set_cons_succ]
      refine takeH 14 98 (.pointer (some ⟨bx, 3, none⟩)) rfl (by kernel_rfl) (by kernel_rfl) (by kernel_rfl) (by kernel_rfl) (fun _ _ _ h => h) (by kernel_rfl) (fun w hw => by (try dsimp only at hw); obtain ⟨hw1, hw2, hw3, hw4, hw5, hw6, hw7, hw8⟩ := hw; go_simp) hH ?_
      simp only [List.setIfInBounds_toArray, List.set_cons_zero, List.set_cons_succ]
      refine takeH 15 99 (.int .i64 (E : Int)) rfl (by kernel_rfl) (by kernel_rfl) (by kernel_rfl) (by kernel_rfl) (fun _ _ _ h => h) (by kernel_rfl) (fun w hw => by (try dsimp only at hw); obtain ⟨hw1, hw2, hw3, hw4, hw5, hw6, hw7, hw8⟩ := hw; go_simp) hH ?_
      simp only [List.setIfInBounds_toArray, List.set_cons_zero, List.set_cons_succ]
      refine takeH 16 100 (.slice (some (a.add F)) (E - F) (dc - F)) rfl (by kernel_rfl) (by kernel_rfl) (by kernel_rfl) (by kernel_rfl) (fun _ _ _ h => h) (by kernel_rfl) (fun w hw => by exact exec_sl2 (s := .tmp 95) (y := .tmp 97) (z := .tmp 99) a dl dc F E HF.out rfl (by kernel_rfl) (by kernel_rfl) (by kernel_rfl)) hH ?_
      simp only [List.setIfInBounds_toArray, List.set_cons_zero, List.set_cons_succ]
      obtain ⟨W6, hcp, hr6, ho6⟩ := copyb_run W2.drew.drew q A (1024 - A) (1024 - A) d ((xs.drop F).take (E - F)) (a.add F) (E - F) (dc - F) HROW.out HSEG.out (by have := HDL.out; have := HA.out; omega) (by have := HF.out; have := HEF.out; omega)
      refine stepH_one 17 (by kernel_rfl) ?_
      refine opH_run 17 101 (.int .i64 ((E - F : Nat) : Int)) W6 rfl (by kernel_rfl) (by kernel_rfl) (exec_cpy (d := .tmp 93) (x := .tmp 100) rfl (by kernel_rfl) (by kernel_rfl) hcp) (HS6.out W6 ho6) ?_
      simp only [List.setIfInBounds_toArray, List.set_cons_zero, List.set_cons_succ]
      refine wpAnyH_done (by kernel_rfl) ?_ _
      dsimp only [Norm]
      have HFIN := Hid.mk (HEND.out W6 hr6 ho6)
      clear hH hcp hr6 ho6
      gi_wp2_with fail
      rw [← HS4.out]
      exact HFIN.out
  case done =>
    rintro D W hD hI hKD
    subst hD
    have h4 := H4.out
    obtain ⟨rk, hpt, hrk⟩ := hI.ex
    have hcl2 := (HST.out w.heap.size (by have := HNBL.out; omega) (.inl (Nat.le_refl _)) _ W hI).trans h4.1
    have hrs2 := (HST.out (w.heap.size + 1) (by have := HNBL.out; omega) (.inl (by omega)) _ W hI).trans h4.2.1
    have hnb2 := (HST.out W1.heap.size HNBL.out.1 (.inl (by have := HWS.out; omega)) _ W hI).trans h4.2.2.1
    have hnd2 := (HST.out b HNBL.out.2.2 (.inr (.inl rfl)) _ W hI).trans h4.2.2.2.1
    have hwo : IntKind.i64.wrap (off + (dl : Int)) = off + (dl : Int) := by rw [IntKind.wrap_i64]; have := HNUM.out; omega
    have e1 := blk_cell (w := W.drew) hnb2 0
    have e2 := blk_cell (w := W.drew) hnd2 2
    have e3 := blk_cell (w := W.drew) hcl2 3
    have e4 := blk_cell (w := W.drew) hcl2 5
    have e5 := blk_free (w := W.drew) hnd2 2
    simp at e1 e2 e3 e4
    have HS1 : Hid (W.drew.cell? ⟨W1.heap.size, 0, none⟩ = some (.pointer (some ⟨b, 0, none⟩)) ∧ W.drew.cell? ⟨w.heap.size, 3, none⟩ = some (.int .i64 off) ∧ W.drew.cell? ⟨w.heap.size, 5, none⟩ = some (.slice (some a) dl dc)) := Hid.mk ⟨e1, e3, e4⟩
    have hbn : W1.heap.size ≠ b ∧ w.heap.size ≠ b ∧ w.heap.size + 1 ≠ b := by have := HTL.out b (HFE.out b (by simp)); have := HWS.out; omega
    have g1 : (W.drew.setCell ⟨b, 2, none⟩ (.int .i64 (max z (off + (dl : Int))))).heap[W1.heap.size]? = _ := (Below.heap_setCell W.drew ⟨b, 2, none⟩ _ _ hbn.1).trans hnb2
    have g2 : (W.drew.setCell ⟨b, 2, none⟩ (.int .i64 (max z (off + (dl : Int))))).heap[w.heap.size]? = _ := (Below.heap_setCell W.drew ⟨b, 2, none⟩ _ _ hbn.2.1).trans hcl2
    have HSE : Hid ((W.drew.setCell ⟨b, 2, none⟩ (.int .i64 (max z (off + (dl : Int))))).cell? ⟨W1.heap.size, 0, none⟩ = some (.pointer (some ⟨b, 0, none⟩)) ∧ (W.drew.setCell ⟨b, 2, none⟩ (.int .i64 (max z (off + (dl : Int))))).cell? ⟨w.heap.size, 3, none⟩ = some (.int .i64 off) ∧ (W.drew.setCell ⟨b, 2, none⟩ (.int .i64 (max z (off + (dl : Int))))).cell? ⟨w.heap.size, 5, none⟩ = some (.slice (some a) dl dc)) := Hid.mk ⟨by rw [blk_cell g1]; rfl, by rw [blk_cell g2]; rfl, by rw [blk_cell g2]; rfl⟩
    have g3 : (W.drew.setCell ⟨b, 2, none⟩ (.int .i64 (max z (off + (dl : Int))))).heap[w.heap.size + 1]? = _ := (Below.heap_setCell W.drew ⟨b, 2, none⟩ _ _ hbn.2.2).trans hrs2
    have g5 := blk_cell g2 5
    simp at g5
    have HI := Hid.mk hI
    have HPT := Hid.mk hpt
    have HRK := Hid.mk hrk
    have HKD := Hid.mk hKD
    have HC2 := Hid.mk hcl2
    have HR2 := Hid.mk hrs2
    have HN2 := Hid.mk hnd2
    have HG3 := Hid.mk g3
    have z0 := blk_cell g3 0
    have y0 := blk_free g3 0
    have z1 := blk_cell g3 1
    have y1 := blk_free g3 1
    have z2 := blk_cell g3 2
    have y2 := blk_free g3 2
    have z3 := blk_cell g3 3
    have y3 := blk_free g3 3
    have z4 := blk_cell g3 4
    have y4 := blk_free g3 4
    have z5 := blk_cell g3 5
    have y5 := blk_free g3 5
    have z6 := blk_cell g3 6
    have y6 := blk_free g3 6
    simp at z0 z1 z2 z3 z4 z5 z6
    clear hI hpt hrk hKD h4 hcl2 hrs2 hnb2 hnd2 hI0 hml hrl e1 e3 e4 g1 g2 g3 hbn
    gi_wp2_with fail
    refine wide_region_held (S := fun W => W.cell? ⟨W1.heap.size, 0, none⟩ = some (.pointer (some ⟨b, 0, none⟩)) ∧ W.cell? ⟨w.heap.size, 3, none⟩ = some (.int .i64 off) ∧ W.cell? ⟨w.heap.size, 5, none⟩ = some (.slice (some a) dl dc)) (by kernel_rfl) (by kernel_rfl) HS1.out (fun hH => ?_)
    change wpAnyH Tryz.prog Region.Mode.any _ _ _ 15 _ _ _
    refine takeHD 0 102 (.pointer (some ⟨b, 0, none⟩)) rfl (by kernel_rfl) (by kernel_rfl) (by kernel_rfl) (by kernel_rfl) (fun _ _ _ h => h) (by kernel_rfl) (fun w hw => by (try dsimp only at hw); obtain ⟨hw1, hw2, hw3⟩ := hw; go_simp) hH ?_
    simp only [List.setIfInBounds_toArray, List.set_cons_zero, List.set_cons_succ]
    refine takeHD 1 103 (.pointer (some ⟨b, 0, none⟩)) rfl (by kernel_rfl) (by kernel_rfl) (by kernel_rfl) (by kernel_rfl) (fun _ _ _ h => h) (by kernel_rfl) (fun w hw => by (try dsimp only at hw); obtain ⟨hw1, hw2, hw3⟩ := hw; go_simp) hH ?_
    simp only [List.setIfInBounds_toArray, List.set_cons_zero, List.set_cons_succ]
    refine takeHD 2 104 (.pointer (some ⟨b, 0, none⟩)) rfl (by kernel_rfl) (by kernel_rfl) (by kernel_rfl) (by kernel_rfl) (fun _ _ _ h => h) (by kernel_rfl) (fun w hw => by (try dsimp only at hw); obtain ⟨hw1, hw2, hw3⟩ := hw; go_simp) hH ?_
    simp only [List.setIfInBounds_toArray, List.set_cons_zero, List.set_cons_succ]
    refine takeHD 3 105 (.pointer (some ⟨b, 2, none⟩)) rfl (by kernel_rfl) (by kernel_rfl) (by kernel_rfl) (by kernel_rfl) (fun _ _ _ h => h) (by kernel_rfl) (fun w hw => by (try dsimp only at hw); obtain ⟨hw1, hw2, hw3⟩ := hw; go_simp) hH ?_
    simp only [List.setIfInBounds_toArray, List.set_cons_zero, List.set_cons_succ]
    refine takeHD 5 107 (.pointer (some ⟨w.heap.size, 3, none⟩)) rfl (by kernel_rfl) (by kernel_rfl) (by kernel_rfl) (by kernel_rfl) (fun _ _ _ h => h) (by kernel_rfl) (fun w hw => by (try dsimp only at hw); obtain ⟨hw1, hw2, hw3⟩ := hw; go_simp) hH ?_
    simp only [List.setIfInBounds_toArray, List.set_cons_zero, List.set_cons_succ]
    refine takeHD 6 108 (.int .i64 off) rfl (by kernel_rfl) (by kernel_rfl) (by kernel_rfl) (by kernel_rfl) (fun _ _ _ h => h) (by kernel_rfl) (fun w hw => by (try dsimp only at hw); obtain ⟨hw1, hw2, hw3⟩ := hw; go_simp) hH ?_
    simp only [List.setIfInBounds_toArray, List.set_cons_zero, List.set_cons_succ]
    refine takeHD 7 109 (.pointer (some ⟨w.heap.size, 5, none⟩)) rfl (by kernel_rfl) (by kernel_rfl) (by kernel_rfl) (by kernel_rfl) (fun _ _ _ h => h) (by kernel_rfl) (fun w hw => by (try dsimp only at hw); obtain ⟨hw1, hw2, hw3⟩ := hw; go_simp) hH ?_
    simp only [List.setIfInBounds_toArray, List.set_cons_zero, List.set_cons_succ]
    refine takeHD 8 110 (.slice (some a) dl dc) rfl (by kernel_rfl) (by kernel_rfl) (by kernel_rfl) (by kernel_rfl) (fun _ _ _ h => h) (by kernel_rfl) (fun w hw => by (try dsimp only at hw); obtain ⟨hw1, hw2, hw3⟩ := hw; go_simp) hH ?_
    simp only [List.setIfInBounds_toArray, List.set_cons_zero, List.set_cons_succ]
    refine takeHD 9 111 (.int .i64 (dl : Int)) rfl (by kernel_rfl) (by kernel_rfl) (by kernel_rfl) (by kernel_rfl) (fun _ _ _ h => h) (by kernel_rfl) (fun w hw => by (try dsimp only at hw); obtain ⟨hw1, hw2, hw3⟩ := hw; go_simp) hH ?_
    simp only [List.setIfInBounds_toArray, List.set_cons_zero, List.set_cons_succ]
    refine takeHD 10 112 (.int .i64 (off + (dl : Int))) rfl (by kernel_rfl) (by kernel_rfl) (by kernel_rfl) (by kernel_rfl) (fun _ _ _ h => h) (by kernel_rfl) (fun w hw => by (try dsimp only at hw); obtain ⟨hw1, hw2, hw3⟩ := hw; go_simp) hH ?_
    simp only [List.setIfInBounds_toArray, List.set_cons_zero, List.set_cons_succ]
    refine stepHD 4 106 (.int .i64 z) rfl (by kernel_rfl) (by kernel_rfl) (by kernel_rfl) (by go_simp) hH ?_
    simp only [List.setIfInBounds_toArray, List.set_cons_zero, List.set_cons_succ]
    refine takeHD 11 113 (.int .i64 (max z (off + (dl : Int)))) rfl (by kernel_rfl) (by kernel_rfl) (by kernel_rfl) (by kernel_rfl) (fun _ _ _ h => h) (by kernel_rfl) (fun w hw => by (try dsimp only at hw); obtain ⟨hw1, hw2, hw3⟩ := hw; go_simp) hH ?_
    simp only [List.setIfInBounds_toArray, List.set_cons_zero, List.set_cons_succ]
    refine takeHD 12 114 (.pointer (some ⟨b, 0, none⟩)) rfl (by kernel_rfl) (by kernel_rfl) (by kernel_rfl) (by kernel_rfl) (fun _ _ _ h => h) (by kernel_rfl) (fun w hw => by (try dsimp only at hw); obtain ⟨hw1, hw2, hw3⟩ := hw; go_simp) hH ?_
    simp only [List.setIfInBounds_toArray, List.set_cons_zero, List.set_cons_succ]
    refine takeHD 13 115 (.pointer (some ⟨b, 2, none⟩)) rfl (by kernel_rfl) (by kernel_rfl) (by kernel_rfl) (by kernel_rfl) (fun _ _ _ h => h) (by kernel_rfl) (fun w hw => by (try dsimp only at hw); obtain ⟨hw1, hw2, hw3⟩ := hw; go_simp) hH ?_
    simp only [List.setIfInBounds_toArray, List.set_cons_zero, List.set_cons_succ]
    refine stepH_oneD 14 (by kernel_rfl) ?_
    refine opH_storeD 14 (W.drew.setCell ⟨b, 2, none⟩ (.int .i64 (max z (off + (dl : Int))))) rfl (by kernel_rfl) (by kernel_rfl) (by go_simp) HSE.out ?_
    refine wpAnyH_done (by kernel_rfl) ?_ _
    dsimp only [Norm]
    clear hH HS1 HSE
    clear e2 e5
    have hNV : (W.drew.setCell ⟨b, 2, none⟩ (.int .i64 (max z (off + (dl : Int))))).heap[b]? = some (.cells #[.int .i64 1, .int .i64 l, .int .i64 (max z (off + (dl : Int))), .map (some m), .slice none 0 0, .map none] 62 (0, 0)) := by
      rw [blk_set (w := W.drew) (b := b) (i := 2) HN2.out]
      rfl
    have hOV : Only (fun k => k = b) W (W.drew.setCell ⟨b, 2, none⟩ (.int .i64 (max z (off + (dl : Int))))) := (Only.refl (fun k => k = b) W).drew.setCell (p := ⟨b, 2, none⟩) (.inl rfl) _
    have HNV := Hid.mk hNV
    have HOV := Hid.mk hOV
    clear hNV hOV
    generalize hV : W.drew.setCell ⟨b, 2, none⟩ (.int .i64 (max z (off + (dl : Int)))) = V at *
    have HU7 := Hid.mk (box7 HG3.out (.int .i64 0) (.slice none 0 0) (.int .i64 0) (.int .i64 0) (.int .i64 0) (.slice none 0 0) (.int .i64 dl))
    have HMAIN : Hid (∃ Ls', TrAt V t { σ with inodes := w64 (σ.inodes + 0), blocks := w64 (σ.blocks + fillN off dl p), nodes := σ.nodes.set j (.file l (max z (off + (dl : Int))) (wrP off dl xs p (pzN off dl))) } Ls' ∧ (∀ q ∈ feet t Ls', q ∈ feet t Ls ∨ w4.heap.size + 2 ≤ q) ∧ Only (fun k => k ∈ feet t Ls) w V) := Hid.mk (by
      have hq1 := HQ.out.1
      have hw4 := HS4.out
      have hfl := HFE.out
      have hw3 : Only (fun k => k = t) w W3 := HO3.out
      have hoV : Only (fun q => q = t ∨ q ∈ (Lay.file b m r).foot) W3 V := by
        have h1 : Only (fun q => q = t ∨ q ∈ (Lay.file b m r).foot) W3 w4 := by rw [HEQ4.out]; exact ((Only.refl _ W3).alloc _).alloc _
        refine (h1.trans HI.out.only (fun i hi => .inl (.inr (by simp [Lay.foot]; exact .inr hi)))).trans HOV.out (fun i hi => .inl (.inr (by rw [hi]; simp [Lay.foot])))
      have hbm : b ∉ m :: r := (List.nodup_cons.1 HND.out).1
      have hbrk : b ∉ m :: rk := fun h => by
        rcases List.mem_cons.1 h with h | h
        · exact hbm (by simp [h])
        · rcases HRK.out b h with h | h
          · exact hbm (by simp [h])
          · have := HNBL.out; omega
      have hptV : PtAt V m rk (wrP off dl xs p (pzN off dl)) := HPT.out.kept (fun q hq => HOV.out.block q (by
        rcases List.mem_cons.1 hq with rfl | hq
        · exact HPT.out.blocks.lt
        · obtain ⟨i, hi, e⟩ := List.getElem_of_mem hq
          have hp : i < (wrP off dl xs p (pzN off dl)).length := by rw [← HPT.out.len]; exact hi
          have hz : ((wrP off dl xs p (pzN off dl))[i], q) ∈ (wrP off dl xs p (pzN off dl)).zip rk := List.mem_of_getElem? (i := i) (by rw [List.getElem?_zip_eq_some]; exact ⟨List.getElem?_eq_getElem hp, by rw [List.getElem?_eq_getElem hi, e]⟩)
          exact lt_of_block (HPT.out.rows _ hz).1) (fun e => hbrk (e ▸ hq)))
      have hnt : t ∉ (Lay.file b m r).foot := fun h => (List.nodup_cons.1 HT.out.apart).1 (List.mem_flatMap.2 ⟨_, List.mem_of_getElem? hq1, h⟩)
      have htV : V.heap[t]? = W3.heap[t]? := by
        have hlt3 : t < W3.heap.size := lt_of_block HT3.out.tree
        have e1 : w4.heap[t]? = W3.heap[t]? := by rw [HEQ4.out, Below.heap_alloc _ _ _ (by simp; omega), Below.heap_alloc _ _ _ hlt3]
        have e2 : W.heap[t]? = w4.heap[t]? := HI.out.only.block t (by omega) (fun h => hnt (by simp [Lay.foot]; exact .inr h))
        have e3 : V.heap[t]? = W.heap[t]? := HOV.out.block t (by have := HI.out.only.size; omega) (fun h => hnt (by rw [h]; simp [Lay.foot]))
        rw [e3, e2, e1]
      have hfin := HT3.out.turn (L' := .file b m rk) (n' := .file l (max z (off + (dl : Int))) (wrP off dl xs p (pzN off dl))) hq1 rfl hoV (i' := w64 (σ.inodes + 0)) (b' := w64 (σ.blocks + fillN off dl p)) (htV.trans HT3.out.tree) (hptV.file HNV.out) (fun q hq => by
        simp only [Lay.foot, List.mem_cons] at hq ⊢
        rcases hq with h | h | h
        · exact .inl (.inl h)
        · exact .inl (.inr (.inl h))
        · rcases HRK.out q h with h | h
          · exact .inl (.inr (.inr h))
          · exact .inr (by omega)) (List.nodup_cons.2 ⟨hbrk, hptV.nd⟩) (fun q hq => by cases hq) (fun e => by
        subst e
        obtain ⟨l1, z1, s1, hr⟩ := HT.out.root
        have := HQ.out.2.1
        rw [hr] at this
        cases this)
      refine ⟨_, hfin, fun q hq => ?_, ?_⟩
      · rcases List.mem_cons.1 hq with rfl | hq
        · exact .inl (by simp [feet])
        · obtain ⟨L, hL, hq⟩ := List.mem_flatMap.1 hq
          rcases List.mem_or_eq_of_mem_set hL with h | h
          · exact .inl (List.mem_cons_of_mem _ (List.mem_flatMap.2 ⟨L, h, hq⟩))
          · subst h
            simp only [Lay.foot, List.mem_cons] at hq
            rcases hq with h | h | h
            · exact .inl (hfl q (by simp [h]))
            · exact .inl (hfl q (by simp [h]))
            · rcases HRK.out q h with h | h
              · exact .inl (hfl q (by simp [h]))
              · exact .inr h
      · refine (hw3.mono (fun i _ hi => by rw [hi]; simp [feet])).trans hoV (fun i hi => .inl ?_)
        rcases hi with h | h
        · rw [h]; simp [feet]
        · exact hfl i (by simpa [Lay.foot] using h))
    gi_wp2_with fail
    generalize hU : World.setCell (World.setCell (World.setCell (World.setCell (World.setCell (World.setCell (World.setCell V _ _) _ _) _ _) _ _) _ _) _ _) _ _ = U at *
    have hb7 := HU7.out
    clear hU
    obtain ⟨Ls', hTV, hft, hoV⟩ := HMAIN.out
    have hVs : w4.heap.size < V.heap.size := by
      have h1 := lt_of_block HKD.out
      have h2 := HOV.out.size
      omega
    have hkd : U.heap[w4.heap.size]? = some (.deferred (some [])) := by
      have h1 : V.heap[w4.heap.size]? = W.heap[w4.heap.size]? := HOV.out.block _ (lt_of_block HKD.out) (fun e => by have := HNBL.out; omega)
      exact (hb7.2.block _ hVs (fun e => by have := HNBL.out; omega)).trans (h1.trans HKD.out)
    have hres : (U.putObj w4.heap.size (.deferred none)).heap[w.heap.size + 1]? = _ := (World.putObj_heap_other (by have := HNBL.out; omega)).trans hb7.1
    have k0 := blk_cell hres 0
    have k1 := blk_cell hres 1
    have k2 := blk_cell hres 2
    have k3 := blk_cell hres 3
    have k4 := blk_cell hres 4
    have k5 := blk_cell hres 5
    have k6 := blk_cell hres 6
    simp at k0 k1 k2 k3 k4 k5 k6
    refine ⟨by simp, .inl ⟨_, _, rfl, run_takeDeferred (by first | exact hkd | rw [← HS4.out]; exact hkd), ?_⟩⟩
    try rw [← HS4.out]
    refine ⟨.agg #[.int .i64 0, .slice none 0 0, .int .i64 0, .int .i64 0, .int .i64 0, .slice none 0 0, .int .i64 dl], ?_, rfl, ⟨⟨Ls', hTV.kept (fun q hq => ?_), fun q hq => ?_⟩, ?_⟩⟩
    · simp [results, Tryz.f27, go_sem, k0, k1, k2, k3, k4, k5, k6]
    · have hne : q ≠ w.heap.size + 1 ∧ q ≠ w4.heap.size := by
        have h4 := HNBL.out
        rcases hft q hq with h | h
        · have := HTL.out q h; omega
        · omega
      rw [World.putObj_heap_other hne.2]
      exact hb7.2.block q (hTV.lt q hq) hne.1
    · rcases hft q hq with h | h
      · exact .inl h
      · exact .inr (by have := HNBL.out; omega)
    · refine (hoV.trans hb7.2 (fun i hi => .inr (by omega))).grown (grownBy_putObj' _ _ _) (fun q e => .inr (by have := Option.some.inj e; have := HNBL.out; omega))
  case stop =>
    rintro D W hD hX hKD
    exact hX.elim
end Go.Proofs.YtehaoeclnmelhacGreat
