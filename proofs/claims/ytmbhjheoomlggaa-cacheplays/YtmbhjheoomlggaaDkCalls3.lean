/-
  What put does, for every disk and every sector of it: the image, the log, and that nothing else has turned.
-/
import Derived.Test.YtmbhjheoomlggaaDkCalls2
import Derived.Deep.RegionLaw
namespace Go.Proofs.Ytmbhjheoomlggaa
open Go Go.Proofs Go.RowKit
namespace Dk
theorem info41p : ∃ i0, Try.prog.info? 81 = some i0 ∧ i0.zero = some (.agg #[.int .i64 0, .slice none 0 0]) ∧ i0.size = 2 ∧ i0.bytes = 32 := by
  obtain ⟨i0, hi, hz0, hz1, hz2⟩ := info_parts info41
  exact ⟨i0, hi, hz0, hz1, hz2⟩
set_option maxRecDepth 100000 in
theorem clone_form (a : Addr) (n c : Nat) (xs : List Int) (w : World) (hx : xs.length = n) (hbig : n ≤ 140737488355328) (hc : ∀ i, i < n → w.cell? (a.add i) = some (.int .u8 (xs.getD i 0))) :
    Calls Try.prog 32 #[.slice (some a) n c] w fun e w' => ∃ g cap, e = .returned (.slice (some ⟨g, 0, none⟩) n cap) ∧ w.heap.size ≤ g ∧ w'.ownsRow w.heap.size 5 1 (.slice (some ⟨g, 0, none⟩) n cap) n (By xs) ∧ Below w.heap.size w w' := by
  refine (clone_any a n c xs w hx hbig hc).mono ?_
  rintro e w' ⟨v', rfl, hown, hnn, hb⟩
  obtain ⟨g, cap, rfl, hg, _⟩ := owns_bytes hown hnn
  exact ⟨g, cap, rfl, hg, hown, hb⟩
theorem pair_cells (w : World) (x y : Value) (t : TypeId) : ∀ j u, [x, y][j]? = some u → (w.alloc (.cells #[x, y] t)).cell? ((⟨w.heap.size, 0, none⟩ : Addr).add j) = some u := by
  intro j u hj
  rw [add_at, blk_cell (blk_new w _), Nat.zero_add]
  simpa using hj
theorem pair_one (q : Int) (g n cap : Nat) : ∀ u ∈ [Value.int .i64 q, .slice (some ⟨g, 0, none⟩) n cap], u.oneCell' = true := by
  intro u hu
  simp at hu
  rcases hu with rfl | rfl <;> rfl
def putS (s : DS) (q : Nat) (xs : List Int) : DS := { s with img := splice s.img (512 * q) xs, log := s.log ++ [((q : Int), xs)] }
set_option maxRecDepth 100000 in
theorem put_fin {F : Nat → Prop} {w w2 w3 w4 : World} {d bi q g cap gl capl L : Nat} {lv : Value} {s : DS} {xs : List Int} {cells : List Value}
    (h0 : F d) (H2 : DiskRest (fun k => F k ∧ k ≠ d) w bi lv s) (hL : s.img.length = L) (hx : xs.length = 512) (hq : 512 * q + 512 ≤ L) (hd : d < w.heap.size)
    (hblk : w2.heap[bi]? = some (.cells (splice (By s.img) (q * 512) (By xs)).toArray 5 (0, 0))) (hg : w.grownBy w2 (some bi))
    (HB3 : Below w2.drew.heap.size w2.drew w3) (HG3 : w2.drew.heap.size ≤ g)
    (HW3 : w3.ownsRow w2.drew.heap.size 5 1 (.slice (some ⟨g, 0, none⟩) 512 cap) 512 (By xs)) {o : Obj}
    (HW4 : w4.ownsRow 0 81 2 (.slice (some ⟨gl, 0, none⟩) (s.log.length + 1) capl) (s.log.length + 1) (cells ++ [.int .i64 q, .slice (some ⟨g, 0, none⟩) 512 cap]))
    (HG4 : (w3.alloc o).grownBy w4 lv.ownBlock) (HL4 : lv.ownBlock = some gl ∨ (w3.alloc o).heap.size ≤ gl)
    (H14 : w4.heap[d]? = some (.cells #[.slice (some ⟨bi, 0, none⟩) L L, lv, .bool s.dead, .bool s.cut, .int .i64 s.left] 55 (0, 0)))
    (hcw : w.ownsRow 0 81 2 lv s.log.length cells)
    (HK : ∀ k, lv.ownBlock = some k → (F k ∧ k ≠ d) ∧ k ≠ bi) (HC : LogCells (fun k => ((F k ∧ k ≠ d) ∧ k ≠ bi) ∧ lv.ownBlock ≠ some k) w cells s.log) :
    DiskAt (fun k => F k ∨ w.heap.size ≤ k) (w4.setCell ⟨d, 1, none⟩ (.slice (some ⟨gl, 0, none⟩) (s.log.length + 1) capl)) d (putS s q xs) ∧
      Only F w (w4.setCell ⟨d, 1, none⟩ (.slice (some ⟨gl, 0, none⟩) (s.log.length + 1) capl)) := by
  have hbi : bi < w.heap.size := lt_of_block H2.2.1
  have s1 : w.heap.size ≤ w2.heap.size := hg.size
  have s2 : w2.heap.size ≤ w3.heap.size := HB3.size
  have HG3' : w2.heap.size ≤ g := HG3
  have hg3 : g < w3.heap.size := (HW3.lt g rfl).2
  have hsz : (w3.alloc o).heap.size = w3.heap.size + 1 := by simp
  have hown : ∀ k, lv.ownBlock = some k → k < w.heap.size := fun k e => (hcw.lt k e).2
  have hgl : gl ≠ d := by
    intro e
    rcases HL4 with h | h
    · exact (HK gl h).1.2 e
    · omega
  have step : ∀ k, k < w3.heap.size → lv.ownBlock ≠ some k → w4.heap[k]? = w3.heap[k]? := fun k hk hne =>
    (HG4.block k (by omega) (fun e => hne e.symm)).trans (Below.heap_alloc _ _ _ hk)
  have step2 : ∀ k, k < w2.heap.size → lv.ownBlock ≠ some k → w4.heap[k]? = w2.heap[k]? := fun k hk hne =>
    (step k (by omega) hne).trans (HB3.block k hk)
  have step3 : ∀ k, k < w.heap.size → k ≠ bi → lv.ownBlock ≠ some k → w4.heap[k]? = w.heap[k]? := fun k hk hb hne =>
    (step2 k (by omega) hne).trans (hg.block k hk (fun e => hb (by simpa using e)))
  have set : ∀ k, k ≠ d → (w4.setCell ⟨d, 1, none⟩ (.slice (some ⟨gl, 0, none⟩) (s.log.length + 1) capl)).heap[k]? = w4.heap[k]? := fun k hk => Below.heap_setCell _ _ _ _ hk
  refine ⟨⟨.inl h0, bi, .slice (some ⟨gl, 0, none⟩) (s.log.length + 1) capl, ?_, ⟨.inl H2.1.1, H2.1.2⟩, ?_, cells ++ [.int .i64 q, .slice (some ⟨g, 0, none⟩) 512 cap], ?_, ?_, ?_⟩, ?_⟩
  · have hlen : (putS s q xs).img.length = L := by
      rw [← hL]
      exact length_splice _ _ _ (by rw [hx, hL]; omega)
    rw [hlen]
    exact blk_set H14
  · rw [set bi H2.1.2, step2 bi (by omega) (fun e => (HK bi e).2 rfl), hblk, splice_By, Nat.mul_comm q 512]
    rfl
  · have hlen : (putS s q xs).log.length = s.log.length + 1 := by simp [putS]
    rw [hlen]
    exact owns_at HW4 (fun k e => by
      simp [Value.ownBlock] at e
      subst e
      exact set _ hgl)
  · intro k e
    simp [Value.ownBlock] at e
    subst e
    rcases HL4 with h | h
    · exact ⟨⟨.inl (HK _ h).1.1, hgl⟩, (HK _ h).2⟩
    · exact ⟨⟨.inr (by omega), hgl⟩, by omega⟩
  · refine LogCells.snoc (x := ((q : Int), xs)) (b := .slice (some ⟨g, 0, none⟩) 512 cap) (log := s.log) rfl ?_ ?_ ?_ ?_
    · simp
    · have h3 : w3.ownsRow 0 5 1 (.slice (some ⟨g, 0, none⟩) 512 cap) 512 (By xs) := owns_base HW3 (Nat.zero_le _)
      show World.ownsRow _ 0 5 1 _ xs.length (By xs)
      rw [hx]
      refine owns_at h3 (fun k e => ?_)
      simp [Value.ownBlock] at e
      subst e
      rw [set _ (by omega), step _ hg3 (fun e => by have := hown _ e; omega)]
    · intro k e
      simp [Value.ownBlock] at e
      subst e
      refine ⟨⟨⟨.inr (by omega), by omega⟩, by omega⟩, ?_⟩
      simp [Value.ownBlock]
      rcases HL4 with h | h
      · have := hown _ h; omega
      · omega
    · have hc' := HC.mono (H := fun k => (((F k ∧ k ≠ d) ∧ k ≠ bi) ∧ lv.ownBlock ≠ some k) ∧ k < w.heap.size) (fun k hk e => ⟨e, hk.lt⟩)
      refine (hc'.at (fun k e => ?_)).mono (fun k _ e => ?_)
      · rw [set k e.1.1.1.2, step3 k e.2 e.1.1.2 e.1.2]
      · refine ⟨⟨⟨.inl e.1.1.1.1, e.1.1.1.2⟩, e.1.1.2⟩, ?_⟩
        simp [Value.ownBlock]
        rcases HL4 with h | h
        · intro e2; subst e2; exact e.1.2 h
        · have := e.2; omega
  · refine Only.setCell ⟨HG4.os.trans (HB3.os.trans hg.os), HG4.tape.trans (HB3.tape.trans hg.tape), HG4.output.trans (HB3.output.trans hg.output), Nat.le_trans (Nat.le_trans s1 s2) (Nat.le_trans (by omega) HG4.size), fun k hk hs => ?_⟩ (.inl h0) _
    exact step3 k hk (fun e => hs (by rw [e]; exact H2.1.1)) (fun e => hs (HK k e).1.1)
set_option maxRecDepth 100000 in
set_option maxHeartbeats 2000000 in
theorem put_any (F : Nat → Prop) (w : World) (d : Nat) (s : DS) (h : DiskAt F w d s) (q : Nat) (a : Addr) (c : Nat) (xs : List Int)
    (hn : s.img.length ≤ 20480000) (hq : 512 * q + 512 ≤ s.img.length) (hx : xs.length = 512) (hl : s.log.length ≤ 1000000) (haF : ¬ F a.block) (ha : a.block < w.heap.size)
    (hc : ∀ i, i < 512 → w.cell? (a.add i) = some (.int .u8 (xs.getD i 0))) :
    Calls Try.prog 36 #[.pointer (some ⟨d, 0, none⟩), .int .i64 q, .slice (some a) 512 c] w fun e w' => e = .returned (.tuple #[]) ∧
      DiskAt (fun k => F k ∨ w.heap.size ≤ k) w' d (putS s q xs) ∧ Only F w w' := by
  obtain ⟨h0, bi, lv, h1, h2⟩ := h
  have hc0 := blk_cell h1 0
  simp at hc0
  have H1 := Hid.mk h1
  have H2 := Hid.mk h2
  clear h1 h2
  have hadd : ∀ i, (a.add i).block = a.block := fun i => by unfold Addr.add; split <;> rfl
  have HCL : Hid (∀ W, Only F w W → Calls Try.prog 32 #[.slice (some a) 512 c] W fun e w' => ∃ g cap, e = .returned (.slice (some ⟨g, 0, none⟩) 512 cap) ∧ W.heap.size ≤ g ∧ w'.ownsRow W.heap.size 5 1 (.slice (some ⟨g, 0, none⟩) 512 cap) 512 (By xs) ∧ Below W.heap.size W w') :=
    fun W hW => clone_form a 512 c xs W hx (by omega) (fun i hi => by
      rw [World.cell?_of_block (w := w) (by rw [hadd]; exact hW.block _ ha haF)]; exact hc i hi)
  have HC := Hid.mk hc
  clear hc
  have HA := Hid.mk hadd
  clear hadd
  obtain ⟨cs, hcs⟩ : ∃ cs, cs = By xs := ⟨_, rfl⟩
  have HCS := Hid.mk hcs
  clear hcs
  generalize hL : s.img.length = L at *
  have HL := Hid.mk hL
  clear hL
  have hq2 : 512 * q < L := by omega
  obtain ⟨i0, hi, hz0, hz1, hz2⟩ := info41p
  go_enter Try.func36, Try.ntmps36
  go_wp2_with (refine wpList_copy_grown rfl (.tmp 12) (.tmp 13) 35 35 rfl 5 Try.underlying35 size5 _ _ _ _ _ _ rfl rfl bi (q * 512) (By s.img) 5 H2.out.2.1 cs ?qa ?qb ?qc ?qd ?_)
  case qa => rw [HCS.out, By_length]; show _ = min 512 (L - q * 512); omega
  case qb =>
    intro hp
    intro j v hj
    have hj2 := (List.getElem?_eq_some_iff.1 hj).1
    rw [HCS.out, By_length] at hj2
    rw [HCS.out, By_get _ _ hj2] at hj
    rw [HC.out j (by omega)]
    exact hj
  case qc => rw [HCS.out, By_length, By_length, HL.out]; omega
  case qd => rw [HCS.out]; exact By_one _
  intro w2 hblk hg
  have hO : Only F w w2 := (Only.refl F w).grown hg.out (fun k e => by cases e; exact .inl H2.out.1.1)
  have hdb : d ≠ bi := fun e => H2.out.1.2 e.symm
  have h12 : w2.heap[d]? = some (.cells #[.slice (some ⟨bi, 0, none⟩) L L, lv, .bool s.dead, .bool s.cut, .int .i64 s.left] 55 (0, 0)) :=
    (hg.out.block d (lt_of_block H1.out) (fun e => hdb (by simpa using e))).trans H1.out
  have hd1 := blk_cell h12 1
  simp at hd1
  have H12 := Hid.mk h12
  have HO := Hid.mk hO
  clear h12 hO hdb
  go_wp2
  obtain ⟨cells, hcw, hcF, hcl⟩ := H2.out.2.2
  -- the log's row in whatever world leaves the disk's blocks alone
  have HROW : Hid (∀ W, Only (fun k => k = bi) w W → W.ownsRow 0 81 2 lv s.log.length cells) := fun W hW =>
    owns_at hcw (fun k e => hW.block k (hcw.lt k e).2 (fun e2 => (hcF k e).2 e2))
  have HO2 : Hid (Only (fun k => k = bi) w w2) := (Only.refl (fun k => k = bi) w).grown hg.out (fun k e => by cases e; exact .inl rfl)
  have HK := Hid.mk hcF
  have HCELLS := Hid.mk hcl
  have HCW := Hid.mk hcw
  clear hcw hcF hcl
  have HD1 := Hid.mk (lt_of_block H12.out)
  go_region_law (first
    | (refine step_call1 rfl 32 (.tmp 21) #[35] rfl (enters_of Try.func32 (by kernel_rfl) rfl) (.slice (some a) 512 c) rfl (HCL.out _ HO.out.drew) ?_; rintro e w3 ⟨g, cap, rfl, hg3, hown3, hb3⟩; refine ⟨_, rfl, ?_⟩; have hd13 : w3.cell? ⟨d, 1, none⟩ = some lv := (hb3.cell (p := ⟨d, 1, none⟩) (by exact HD1.out)).trans hd1; have hd13a : ∀ o, (w3.alloc o).cell? ⟨d, 1, none⟩ = some lv := fun o => Lib.cell?_alloc_some o hd13; have HO3 := Hid.mk ((HO2.out.drew).trans (Only.of_new (fun _ => False) hb3) (fun _ h => h.elim)); have HW3 := Hid.mk hown3; have HB3 := Hid.mk hb3; have HG3 := Hid.mk hg3; clear hown3 hb3 hg3)
    | (refine step_append_sep rfl (.tmp 19) (.tmp 24) 51 rfl 81 i0 _ 2 32 Try.underlying51 hi hz0 hz1 hz2 rfl (by decide) lv s.log.length cells rfl (HROW.out _ (HO3.out.alloc _)) ⟨w3.heap.size, 0, none⟩ 1 1 [.int .i64 q, .slice (some ⟨g, 0, none⟩) 512 cap] rfl rfl (pair_cells _ _ _ _) (pair_one _ _ _ _) (by unfold maxLen; omega) (by omega) (by decide) ?_; intro gl capl w4 hown4 hgr4 hgl4; have h14 := hgr4.block d (Nat.lt_of_lt_of_le HD1.out (Nat.le_trans HB3.out.size (by simp))) (fun e => (HK.out d e.symm).1.2 rfl); rw [Below.heap_alloc _ _ _ (Nat.lt_of_lt_of_le HD1.out HB3.out.size), HB3.out.block d HD1.out] at h14; have h14 := h14.trans H12.out; have hd4 := blk_cell h14 1; have hf4 := blk_free h14 1; have H14 := Hid.mk h14; have HW4 := Hid.mk hown4; have HG4 := Hid.mk hgr4; have HL4 := Hid.mk hgl4; clear hown4 hgr4 hgl4 h14))
  all_goals go_end0
  all_goals
    have hbk := hblk.out
    rw [HCS.out] at hbk
    have fin := put_fin h0 H2.out HL.out hx hq (lt_of_block H1.out) hbk hg.out HB3.out HG3.out HW3.out HW4.out HG4.out HL4.out H14.out HCW.out HK.out HCELLS.out
    exact ⟨rfl, fin.1, fin.2⟩
end Dk
end Go.Proofs.Ytmbhjheoomlggaa
