/-
  A block that is not kept is read, and kept from now on.
-/
import Derived.Test.YtmbhjheoomlggaaCaFind
namespace Go.Proofs.Ytmbhjheoomlggaa
open Go Go.Proofs Go.RowKit Go.Shelf
open Go.ChangeMaps (setBlock)
theorem keyF_add {L : List Pl} {x : Pl} (hn : ∀ y ∈ L, y.num ≠ x.num) (l : Lit) : updF (keyF L) (.int .i64 x.num) (some (ptV x.p)) l = keyF (L ++ [x]) l := by
  by_cases e : l = .int .i64 x.num
  · subst e
    rw [upd_same, keyF_int, List.find?_append, List.find?_eq_none.2 (fun y hy => by simpa using hn y hy)]
    simp
  · rw [upd_other _ _ e]
    unfold keyF
    split
    · rename_i n
      have hne : (x.num == n) = false := by
        simp
        exact fun e' => e (by rw [e'])
      simp [List.find?_append, hne]
    · rfl
def heldO (n : Int) (g xc : Nat) : Obj := .cells #[.int .i64 n, .int .i64 0, .bool false, .slice (some ⟨g, 0, none⟩) 1024 xc] 69
section
variable {F : Nat → Prop} {w1 : World} {c m : Nat} {size reads : Int} {d : Value}
theorem find_fin (L : List Pl) (n : Int) (hw : (Lit.int .i64 n).wf = true) (hn : ∀ y ∈ L, y.num ≠ n) (hl : L.length ≤ 1000000) (h1 : CaAt F w1 c m d size reads L) (w2 : World) (hB : Below w1.heap.size w1 w2) (g xc : Nat) (dat : List Int) (hg : w1.heap.size ≤ g)
    (hrow : w2.ownsRow 0 5 1 (.slice (some ⟨g, 0, none⟩) 1024 xc) 1024 (By dat)) :
    LsAt (w2.alloc (heldO n g xc)) c d (.int .i64 size) (.int .i64 reads) (.map (some m)) (.int .i64 (idleN L : Nat)) L ∧
    ∀ w4, LinkP ((w2.alloc (heldO n g xc)).alloc (.cells #[ptV w2.heap.size, niV, niV] 67)) c d (.int .i64 size) (.int .i64 reads) (.map (some m)) (.int .i64 (idleN L : Nat)) L ⟨w2.heap.size + 1, w2.heap.size, g, xc, n, 0, false, dat⟩ (.returned (.tuple #[])) w4 →
      w4.cell? ⟨c, 5, none⟩ = some (.map (some m)) ∧ ∃ o, (Instr.mapUpdate 56 (.map (some m)) (.int .i64 n) (ptV (w2.heap.size + 1))).run Try.prog w4 = .ok () (setBlock w4 m o) ∧ (setBlock w4 m o).cell? ⟨c, 6, none⟩ = some (.int .i64 (idleN L : Nat)) ∧ (setBlock w4 m o).frozen? ⟨c, 6, none⟩ = false ∧
        CaAt (fun k => F k ∨ w1.heap.size ≤ k) ((setBlock w4 m o).setCell ⟨c, 6, none⟩ (.int .i64 ((idleN L : Nat) + 1 : Int))) c m d size reads (L ++ [⟨w2.heap.size + 1, w2.heap.size, g, xc, n, 0, false, dat⟩]) ∧ Only F w1 ((setBlock w4 m o).setCell ⟨c, 6, none⟩ (.int .i64 ((idleN L : Nat) + 1 : Int))) := by
  have hs2 := hB.size
  have hgl : g < w2.heap.size := (hrow.lt g rfl).2
  have hB3 : Below w1.heap.size w1 (w2.alloc (heldO n g xc)) := hB.alloc hs2 _
  have hB4 : Below w1.heap.size w1 ((w2.alloc (heldO n g xc)).alloc (.cells #[ptV w2.heap.size, niV, niV] 67)) := hB3.alloc (by simp; omega) _
  refine ⟨(h1.below hB3).ls, ?_⟩
  rintro w4 ⟨_, g1, g3⟩
  have h4 := h1.below hB4
  have hob : ((w2.alloc (heldO n g xc)).alloc (.cells #[ptV w2.heap.size, niV, niV] 67)).heap[w2.heap.size]? = some (heldO n g xc) := (Below.heap_alloc _ _ _ (by simp)).trans (blk_new w2 _)
  have hog : ((w2.alloc (heldO n g xc)).alloc (.cells #[ptV w2.heap.size, niV, niV] 67)).heap[g]? = w2.heap[g]? := (Below.heap_alloc _ _ _ (by simp; omega)).trans (Below.heap_alloc _ _ _ hgl)
  have hsz : ((w2.alloc (heldO n g xc)).alloc (.cells #[ptV w2.heap.size, niV, niV] 67)).heap.size = w2.heap.size + 2 := by simp
  generalize (w2.alloc (heldO n g xc)).alloc (.cells #[ptV w2.heap.size, niV, niV] 67) = w3 at *
  obtain ⟨x, hx⟩ : ∃ x : Pl, x = ⟨w2.heap.size + 1, w2.heap.size, g, xc, n, 0, false, dat⟩ := ⟨_, rfl⟩
  have xp : x.p = w2.heap.size + 1 := by rw [hx]
  have xh : x.h = w2.heap.size := by rw [hx]
  have xg : x.g = g := by rw [hx]
  have xn : x.num = n := by rw [hx]
  have xi : x.idle = true := by rw [hx]; rfl
  rw [← hx] at g1 g3 ⊢
  have hcl := h1.c_lt
  have hml := h1.map.lt
  have tn : ∀ k, k ≠ c → (∀ y ∈ L, k ≠ y.p) → k ≠ x.p → ¬ Tn c (L ++ [x]) k := by
    rintro k k1 k2 k3 (e | ⟨y, hy, e⟩)
    · exact k1 e
    · rcases List.mem_append.1 hy with hy | hy
      · exact k2 y hy e
      · rw [List.mem_singleton.1 hy] at e; exact k3 e
  have tm : ¬ Tn c (L ++ [x]) m := tn m h1.m_ne.1 (fun y hy => (h1.m_ne.2 y hy).1) (by omega)
  have hcm : c ≠ m := fun e => h1.m_ne.1 e.symm
  have m4 : MAt w4 3 m L.length (keyF L) := h4.map.kept (g3.block m (by omega) tm)
  obtain ⟨o, hu, hm⟩ := m4.put keyed3 Try.underlying56 (by unfold maxLen; omega) (key_int hw) (val := ptV (w2.heap.size + 1))
  have hno : keyF L (.int .i64 n) = none := by rw [keyF_int, List.find?_eq_none.2 (fun y hy => by simpa using hn y hy)]; rfl
  rw [hno] at hm
  simp only [Option.isSome_none, Bool.false_eq_true, if_false] at hm
  have hb2 : (setBlock w4 m o).heap[c]? = _ := (heap_set_other hcm).trans g1.blk
  have hil : idleN (L ++ [x]) = idleN L + 1 := by rw [idleN_append]; simp [idleN, xi]
  have fin : ∀ k, k ≠ c → k ≠ m → ((setBlock w4 m o).setCell ⟨c, 6, none⟩ (.int .i64 ((idleN L : Nat) + 1 : Int))).heap[k]? = w4.heap[k]? := fun k k1 k2 => by rw [set_other _ _ _ _ k1, heap_set_other k2]
  refine ⟨(ca_cells g1.blk).2.2.2.1, o, hu, (ca_cells hb2).2.2.2.2.1, (ca_cells hb2).2.2.2.2.2.2, ⟨.inl h1.fc, .inl h1.fm, ⟨?_, g1.seg.keep (fun y hy => ?_), g1.nd⟩, ?_, fun y hy => ?_, fun y hy => ?_, ?_, ?_, fun y hy => ?_⟩, ?_⟩
  · rw [hil]; exact set_c6 hb2
  · refine fin _ (g1.ne hy) (fun e => ?_)
    rcases List.mem_append.1 hy with hy | hy
    · exact (h1.m_ne.2 y hy).1 e.symm
    · rw [List.mem_singleton.1 hy] at e; omega
  · rw [List.length_append, List.length_singleton]
    refine (hm.kept (set_other _ _ _ _ h1.m_ne.1)).say (fun _ kl _ => ?_)
    have := keyF_add (L := L) (x := x) (fun y hy => by rw [xn]; exact hn y hy) kl
    rw [xn, xp] at this
    exact this
  · rcases List.mem_append.1 hy with hy | hy
    · have hk := h1.kind hy hy
      have hmn := h1.m_ne.2 y hy
      have hl1 := h1.h_lt hy
      have hl2 := (h1.held y hy).g_lt
      refine (h4.held y hy).keep ?_ ?_
      · rw [fin _ hk.1 (fun e => hmn.2.1 e.symm)]
        exact g3.block _ (by omega) (tn _ hk.1 (fun z hz => (h1.kind hy hz).2.2.1) (by omega))
      · rw [fin _ hk.2.1 (fun e => hmn.2.2 e.symm)]
        exact g3.block _ (by omega) (tn _ hk.2.1 (fun z hz => (h1.kind hy hz).2.2.2.1) (by omega))
    · rw [List.mem_singleton.1 hy]
      have hpl : ∀ z ∈ L, z.p < w1.heap.size := fun z hz => h1.p_lt hz
      refine ⟨?_, ?_⟩
      · rw [fin _ (by omega) (by omega), g3.block _ (by omega) (tn _ (by omega) (fun z hz => by have := hpl z hz; omega) (by omega)), xh, hob, hx]
        rfl
      · rw [hx]
        refine owns_at hrow (fun k e => ?_)
        obtain rfl : g = k := by simpa [Value.ownBlock] using e
        rw [fin _ (by omega) (by omega), g3.block _ (by omega) (tn _ (by omega) (fun z hz => by have := hpl z hz; omega) (by omega)), hog]
  · rcases List.mem_append.1 hy with hy | hy
    · exact ⟨.inl (h1.inF y hy).1, .inl (h1.inF y hy).2.1, .inl (h1.inF y hy).2.2⟩
    · rw [List.mem_singleton.1 hy]
      exact ⟨.inr (by omega), .inr (by omega), .inr (by omega)⟩
  · rw [List.map_append, List.nodup_append]
    refine ⟨h1.nh, by simp, fun a ha b hb => ?_⟩
    obtain ⟨y, hy, rfl⟩ := List.mem_map.1 ha
    simp at hb
    have := h1.h_lt hy
    omega
  · rw [List.map_append, List.nodup_append]
    refine ⟨h1.nn, by simp, fun a ha b hb => ?_⟩
    obtain ⟨y, hy, rfl⟩ := List.mem_map.1 ha
    simp at hb
    rw [hb, xn]
    exact hn y hy
  · rcases List.mem_append.1 hy with hy | hy
    · exact h1.wf y hy
    · rw [List.mem_singleton.1 hy, xn]; exact hw
  · refine Only.setCell (p := ⟨c, 6, none⟩) (Only.setBlock ?_ (.inl h1.fm) o) (.inl h1.fc) _
    refine (Only.of_new F hB4).trans g3 (fun k hk => ?_)
    rcases hk with rfl | ⟨y, hy, rfl⟩
    · exact .inl h1.fc
    · rcases List.mem_append.1 hy with hy | hy
      · exact .inl (h1.inF y hy).1
      · rw [List.mem_singleton.1 hy]; exact .inr (by omega)
end
section
variable {F : Nat → Prop} {w : World} {c m : Nat} {size reads : Int}
set_option maxRecDepth 100000 in
set_option maxHeartbeats 4000000 in
theorem find_yes (Fd : Nat → Prop) (dd : Nat) (s : Dk.DS) (L : List Pl) (n : Int) (hw : (Lit.int .i64 n).wf = true) (hn : ∀ y ∈ L, y.num ≠ n) (hl : L.length ≤ 1000000) (h : CaAt F w c m (ptV dd) size reads L) (hd : Dk.DiskAt Fd w dd s) (hdis : ∀ k, F k → ¬ Fd k) (hi : s.img.length ≤ 20480000)
    (hr0 : 0 ≤ reads) (hr1 : reads ≤ 1000000) (hyes : (Dk.hasB s n && !s.dead) = true) :
    Calls Try.prog 28 #[ptV c, .int .i64 n] w fun e w' => ∃ x : Pl, e = .returned (ptV x.p) ∧ x.num = n ∧ x.pins = 0 ∧ x.dirty = false ∧ x.dat = blkL s n ∧ CaAt (fun k => F k ∨ w.heap.size ≤ k) w' c m (ptV dd) size (reads + 1) (L ++ [x]) ∧ Only F w w' := by
  obtain ⟨c5, hlk⟩ := find_none_look L n hw hn h
  obtain ⟨c0, _, c2, _, _, f2, _⟩ := ca_cells h.ls.blk
  obtain ⟨g1, g2⟩ := h.reads' (reads + 1)
  have hd1 := hd.only g2 (fun k _ hk hf => hdis k hf hk)
  have HRD := Hid.mk (Dk.read_any Fd _ dd s hd1 hi n)
  rw [hyes] at HRD
  have hsz : (w.setCell ⟨c, 2, none⟩ (.int .i64 (reads + 1))).heap.size = w.heap.size := by simp
  have HFY : Hid (∀ (w2 : World) (xo : Option Addr) (xn xc : Nat), Below (w.setCell ⟨c, 2, none⟩ (.int .i64 (reads + 1))).heap.size (w.setCell ⟨c, 2, none⟩ (.int .i64 (reads + 1))) w2 → (∀ a, xo = some a → (w.setCell ⟨c, 2, none⟩ (.int .i64 (reads + 1))).heap.size ≤ a.block ∧ a.off = 0 ∧ a.spot = none) →
      (xn = 1024 ∧ w2.ownsRow (w.setCell ⟨c, 2, none⟩ (.int .i64 (reads + 1))).heap.size 5 1 (.slice xo xn xc) 1024 (By (blkL s n)) ∧ xo ≠ none) →
      ∃ g, xo = some ⟨g, 0, none⟩ ∧ xn = 1024 ∧ w2.cell? ⟨c, 5, none⟩ = some (.map (some m)) ∧ Calls Try.prog 40 #[.pointer (some ⟨c, 3, none⟩), ptV w2.heap.size] (w2.alloc (heldO n g xc)) fun e w4 => e = .returned (ptV (w2.heap.size + 1)) ∧ w4.cell? ⟨c, 5, none⟩ = some (.map (some m)) ∧ ∃ o, (Instr.mapUpdate 56 (.map (some m)) (.int .i64 n) (ptV (w2.heap.size + 1))).run Try.prog w4 = .ok () (setBlock w4 m o) ∧ (setBlock w4 m o).cell? ⟨c, 6, none⟩ = some (.int .i64 (idleN L : Nat)) ∧ (setBlock w4 m o).frozen? ⟨c, 6, none⟩ = false ∧
        Hid (∃ x : Pl, x.p = w2.heap.size + 1 ∧ x.num = n ∧ x.pins = 0 ∧ x.dirty = false ∧ x.dat = blkL s n ∧ CaAt (fun k => F k ∨ w.heap.size ≤ k) ((setBlock w4 m o).setCell ⟨c, 6, none⟩ (.int .i64 ((idleN L : Nat) + 1 : Int))) c m (ptV dd) size (reads + 1) (L ++ [x]) ∧ Only F w ((setBlock w4 m o).setCell ⟨c, 6, none⟩ (.int .i64 ((idleN L : Nat) + 1 : Int))))) := Hid.mk (fun w2 xo xn xc hB ha hy => by
    obtain ⟨rfl, hrow, hne⟩ := hy
    cases xo with
    | none => exact absurd rfl hne
    | some a =>
      obtain ⟨q1, q2, q3⟩ := ha a rfl
      obtain ⟨g, off, sp⟩ := a
      simp only at q1 q2 q3
      subst q2 q3
      obtain ⟨r1, r2⟩ := find_fin L n hw hn hl g1 w2 hB g xc (blkL s n) q1 (owns_base hrow (Nat.zero_le _))
      refine ⟨g, rfl, rfl, (ca_cells ((g1.below hB).ls.blk)).2.2.2.1, (add_any L ⟨w2.heap.size + 1, w2.heap.size, g, xc, n, 0, false, blkL s n⟩ r1 (by simp)).mono ?_⟩
      rintro e w4 ⟨rfl, hL4⟩
      obtain ⟨s1, o, s2, s3, s4, s5, s6⟩ := r2 w4 hL4
      rw [hsz] at s5
      exact ⟨rfl, s1, o, s2, s3, s4, Hid.mk ⟨_, rfl, rfl, rfl, rfl, rfl, s5, g2.trans s6 (fun _ h => .inl h)⟩⟩)
  have hib : idleN L ≤ 1000000 := Nat.le_trans (idleN_le L) hl
  have HNW := Hid.mk hw
  clear h hn hw hd hd1 g1 g2 hyes hsz hl
  unfold blkL heldO at *
  go_enter Try.func28, Try.ntmps28
  go_wp2_with (first
    | (go_at_call 27; refine HRD.out.mono ?_; rintro e w2 ⟨xo, xn, xc, rfl, hB, ha, hy, _⟩; obtain ⟨g, rfl, rfl, c5b, hadd⟩ := HFY.out w2 xo xn xc hB ha (hy rfl); have HADD := Hid.mk hadd; clear hB ha hy hadd)
    | (go_at_call 40; refine HADD.out.mono ?_; rintro e w4 ⟨rfl, c5c, o, hput, c6, f6, hfin⟩))
  go_ret
  obtain ⟨x, e, h1, h2, h3, h4, h5⟩ := hfin.out
  exact ⟨x, by rw [e]; rfl, h1, h2, h3, h4, h5⟩
end
end Go.Proofs.Ytmbhjheoomlggaa
