/-
  rmdir.
-/
import Derived.Test.YtehaoeclnmelhacGreatTrBoth
namespace Go.Proofs.YtehaoeclnmelhacGreat
open Go Go.Proofs Go.RowKit Go.Shelf Go.Sort

theorem namedE_or {W : World} {t : Nat} {σ : Tr} {Ls : List Lay} (hT : TrAt W t σ Ls) (s : List UInt8) : (∃ d p j, namedE σ.nodes s = (0, some ⟨d, p, some j⟩) ∧ d < σ.nodes.length ∧ (nodeAt σ.nodes d).isDir = true ∧ lookS (nodeAt σ.nodes d).slots p = some j ∧ j < σ.nodes.length ∧ p.length ≤ 1000) ∨ ∃ e sp, namedE σ.nodes s = (e, sp) ∧ e ≠ 0 := by
  unfold namedE
  cases h : splitL s with
  | none => exact .inr ⟨15, none, rfl, by decide⟩
  | some K =>
    rcases list_two K with rfl | ⟨M, p, rfl⟩
    · exact .inr ⟨18, none, rfl, by decide⟩
    · simp only [List.append_eq_nil_iff, List.cons_ne_self, and_false, if_false, List.dropLast_concat, List.getLastD_concat]
      rcases spotE_or σ.nodes M p with ⟨d, o, he, h1, h2, h3⟩ | ⟨e, he, hne⟩
      · rw [he]
        cases o with
        | none => exact .inr ⟨10, some ⟨d, p, none⟩, rfl, by decide⟩
        | some j =>
          have hdl := wayE_lt hT M h1
          refine .inl ⟨d, p, j, rfl, hdl, h2, h3.symm, ?_, (split_bounds h).1 p (by simp)⟩
          obtain ⟨b, m, r, c, l, z, sl, q1, q2, q3, q4, q5⟩ := hT.dirAt hdl h2
          rw [q5] at h3
          exact look_ref hT q2 h3.symm
      · rw [he]
        refine .inr ⟨nmE (e, none), none, rfl, ?_⟩
        have : nmE (e, none) = e := by unfold nmE; split <;> simp_all
        rw [this]
        exact hne
def rmdirS (σ : Tr) (s : List UInt8) : Int × Tr :=
  match namedE σ.nodes s with
  | (0, some ⟨d, p, some j⟩) => if (nodeAt σ.nodes j).isDir = true then (if 0 < usedN (nodeAt σ.nodes j).slots then (14, σ) else (0, loseT { σ with nodes := σ.nodes.modify d (fun x => x.del p) } d j)) else (12, σ)
  | (e, _) => (e, σ)
set_option maxRecDepth 100000 in
set_option maxHeartbeats 4000000 in
theorem rmdir_wrong (w : World) (t : Nat) (σ : Tr) (Ls : List Lay) (hT : TrAt w t σ Ls) (k : Int) (s s2 : ByteArray) (off m : Int) (dp : Option Addr) (dl dc : Nat) (hs : s.size ≤ 16777216) (hw : ∃ e sp, namedE σ.nodes (ofS s) = (e, sp) ∧ e ≠ 0) :
    Calls Tryz.prog 24 #[ptrV t, callV k s s2 off m (.slice dp dl dc)] w fun e w' => e = .returned (errV (rmdirS σ (ofS s)).1) ∧ (rmdirS σ (ofS s)).2 = σ ∧ Below w.heap.size w w' := by
  obtain ⟨e, sp, he, hne⟩ := hw
  have HN : Hid (∀ W, Below w.heap.size w W → _) := Hid.mk (fun W (hB : Below w.heap.size w W) => named_any W t σ Ls (hT.below rfl hB) s hs)
  have HV : rmdirS σ (ofS s) = (e, σ) := by unfold rmdirS; rw [he]; split <;> simp_all
  rw [he] at HN
  rw [HV]
  simp only at HN ⊢
  have hsv : ∃ x0 x1 x2, spotV (locL Ls) sp = .agg #[.pointer x0, .string x1, .pointer x2] := by
    cases sp with
    | none => exact ⟨_, _, _, rfl⟩
    | some sp => obtain ⟨q, hq, _⟩ := opt_ptr (locL Ls) sp.named; exact ⟨some ⟨locL Ls sp.dir, 0, none⟩, mkS sp.name, q, by simp only [spotV, hq, ptrV, strV]⟩
  obtain ⟨x0, x1, x2, hsv⟩ := hsv
  rw [hsv] at HN
  clear hT hs he HV hsv
  unfold callV ptrV at *
  go_enter Tryz.func24, Tryz.ntmps24
  go_wp2_with fail
  obtain ⟨X, hX⟩ : ∃ X, X = (w.alloc (.cells #[.int .i64 k, .string s, .string s2, .int .i64 off, .int .i64 m, .slice dp dl dc] 34)).alloc (.cells #[.int .i64 0, .slice none 0 0, .int .i64 0, .int .i64 0, .int .i64 0, .slice none 0 0, .int .i64 0] 31) := ⟨_, rfl⟩
  have hXB : Below w.heap.size w X := by rw [hX]; exact ((Below.refl _ w).alloc (Nat.le_refl _) _).alloc (by simp) _
  have hXs : X.heap.size = w.heap.size + 2 := by rw [hX]; simp
  have hX0 : X.heap[w.heap.size]? = some (.cells #[.int .i64 k, .string s, .string s2, .int .i64 off, .int .i64 m, .slice dp dl dc] 34 (0, 0)) := by rw [hX, Below.heap_alloc _ _ _ (by simp)]; exact blk_new w _
  have hX1 : X.heap[w.heap.size + 1]? = some (.cells #[.int .i64 0, .slice none 0 0, .int .i64 0, .int .i64 0, .int .i64 0, .slice none 0 0, .int .i64 0] 31 (0, 0)) := by
    rw [hX]
    have := blk_new (w.alloc (.cells #[.int .i64 k, .string s, .string s2, .int .i64 off, .int .i64 m, .slice dp dl dc] 34)) (.cells #[.int .i64 0, .slice none 0 0, .int .i64 0, .int .i64 0, .int .i64 0, .slice none 0 0, .int .i64 0] 31)
    rwa [World.size_alloc] at this
  rw [← hX]
  clear hX
  refine (HN.out X hXB).mono ?_
  rintro e' W1 ⟨rfl, hB1⟩
  have hB : Below w.heap.size w W1 := hXB.trans (hB1.mono (by omega))
  have hbx1 := (hB1.block (w.heap.size + 1) (by omega)).trans hX1
  have HB1 : Hid ((W1.alloc (.cells #[.pointer x0, .string x1, .pointer x2] 69)).heap[w.heap.size + 1]? = some (.cells #[.int .i64 0, .slice none 0 0, .int .i64 0, .int .i64 0, .int .i64 0, .slice none 0 0, .int .i64 0] 31 (0, 0))) := Hid.mk ((Below.heap_alloc _ _ _ (lt_of_block hbx1)).trans hbx1)
  have HBB : Hid (Below w.heap.size w (W1.alloc (.cells #[.pointer x0, .string x1, .pointer x2] 69))) := Hid.mk (hB.alloc hB.size _)
  clear hB hB1 hX0 hX1 hXB hXs hbx1
  go_wp2_with (go_at_call 19; refine (failed_any _ _).mono ?_; rintro e' W3 ⟨rfl, hb3⟩; have hbx := (hb3.block _ (lt_of_block HB1.out)).trans HB1.out; have z0 := blk_cell hbx 0; have y0 := blk_free hbx 0; have z1 := blk_cell hbx 1; have y1 := blk_free hbx 1; have z2 := blk_cell hbx 2; have y2 := blk_free hbx 2; have z3 := blk_cell hbx 3; have y3 := blk_free hbx 3; have z4 := blk_cell hbx 4; have y4 := blk_free hbx 4; have z5 := blk_cell hbx 5; have y5 := blk_free hbx 5; have z6 := blk_cell hbx 6; have y6 := blk_free hbx 6; simp at z0 z1 z2 z3 z4 z5 z6; have BXX := Hid.mk hbx; have HB3 := Hid.mk hb3; unfold errV; clear hbx hb3)
  have hb7 := (box7 BXX.out (.int .i64 e) (.slice none 0 0) (.int .i64 0) (.int .i64 0) (.int .i64 0) (.slice none 0 0) (.int .i64 0)).1
  have ho7 := (box7 BXX.out (.int .i64 e) (.slice none 0 0) (.int .i64 0) (.int .i64 0) (.int .i64 0) (.slice none 0 0) (.int .i64 0)).2
  obtain ⟨Y, hY⟩ : ∃ Y, Y = (((((((W3.setCell ⟨w.heap.size + 1, 0, none⟩ (.int .i64 e)).setCell ⟨w.heap.size + 1, 1, none⟩ (.slice none 0 0)).setCell ⟨w.heap.size + 1, 2, none⟩ (.int .i64 0)).setCell ⟨w.heap.size + 1, 3, none⟩ (.int .i64 0)).setCell ⟨w.heap.size + 1, 4, none⟩ (.int .i64 0)).setCell ⟨w.heap.size + 1, 5, none⟩ (.slice none 0 0)).setCell ⟨w.heap.size + 1, 6, none⟩ (.int .i64 0)) := ⟨_, rfl⟩
  rw [← hY] at hb7 ho7 ⊢
  have k0 := blk_cell hb7 0
  have k1 := blk_cell hb7 1
  have k2 := blk_cell hb7 2
  have k3 := blk_cell hb7 3
  have k4 := blk_cell hb7 4
  have k5 := blk_cell hb7 5
  have k6 := blk_cell hb7 6
  simp at k0 k1 k2 k3 k4 k5 k6
  refine bodyPost_ret (v := errV e) ?_ rfl ?_
  · simp [results, Tryz.results24, go_sem, errV, k0, k1, k2, k3, k4, k5, k6]
  · exact ⟨rfl, trivial, by have h1 := HBB.out.trans (HB3.out.mono HBB.out.size); exact ((Only.of_below (S := fun _ => False) h1 (fun k h1 h2 => by omega)).trans ho7 (fun i hi => .inr (by omega))).below (Nat.le_refl _) (fun _ h => h.elim)⟩
theorem del_ok {N : List Nd} (h : ∀ x ∈ N, x.Ok) (d : Nat) (p : List UInt8) : ∀ x ∈ N.modify d (fun x => x.del p), x.Ok := by
  intro x hx
  obtain ⟨i, hi, e⟩ := List.getElem_of_mem hx
  have e2 : (N.modify d (fun x => x.del p))[i]? = some x := by rw [List.getElem?_eq_getElem hi, e]
  rw [List.getElem?_modify] at e2
  cases hn : N[i]? with
  | none => rw [hn] at e2; cases e2
  | some y =>
    rw [hn] at e2
    have hy := h y (List.mem_of_getElem? hn)
    simp at e2
    split at e2
    · subst e2
      cases y with
      | file l z q => exact hy
      | dir l z s => exact ⟨hy.1, hy.2.1, by simpa using hy.2.2⟩
    · subst e2; exact hy
theorem del_dir {N : List Nd} (i d : Nat) (p : List UInt8) (h : (nodeAt N i).isDir = true) : (nodeAt (N.modify d (fun x => x.del p)) i).isDir = true := by
  unfold nodeAt at h ⊢
  rw [List.getD, List.getElem?_modify]
  rw [List.getD] at h
  cases hn : N[i]? with
  | none => rw [hn] at h; cases h
  | some y =>
    rw [hn] at h
    have h' : y.isDir = true := h
    simp
    split
    · cases y with
      | file => cases h'
      | dir => rfl
    · exact h'
theorem remove_tree (w : World) (t : Nat) (σ : Tr) (Ls : List Lay) (hT : TrAt w t σ Ls) (d : Nat) (p : List UInt8) (j : Nat) (hd : d < σ.nodes.length) (hdk : (nodeAt σ.nodes d).isDir = true) (hlk : lookS (nodeAt σ.nodes d).slots p = some j) (hp : p.length ≤ 1000) :
    Calls Tryz.prog 42 #[ptrV (locL Ls d), strV p] w fun e w' => e = .returned (.tuple #[]) ∧ TrAt w' t { σ with nodes := σ.nodes.modify d (fun x => x.del p) } Ls ∧ Only (fun k => k ∈ feet t Ls) w w' := by
  obtain ⟨b, m, r, c, l, z, s, q1, q2, q3, q4, q5⟩ := hT.dirAt hd hdk
  have hnd : [b, m, r].Nodup := foot_nodup (List.nodup_cons.1 hT.apart).2 q1
  rw [q5] at hlk
  have hlt : nameAt s p < s.length := by
    have h1 := look_lt s p
    have h2 : lookS s p = some j := hlk
    rw [h2] at h1
    simpa using h1.symm
  rw [q4]
  refine (remove_any w (locL Ls) b m r c l z s q3 hnd p hp hlt).mono ?_
  rintro e w' ⟨h1, h2, h3⟩
  have htm : t ≠ m ∧ t ≠ r := by
    constructor <;> exact fun e => (List.nodup_cons.1 hT.apart).1 (List.mem_flatMap.2 ⟨_, List.mem_of_getElem? q1, by rw [e]; simp [Lay.foot]⟩)
  have hfin := hT.turn (L' := .dir b m r c) (n' := .dir l z (s.set (nameAt s p) none)) (i' := σ.inodes) (b' := σ.blocks) q1 rfl (h3.mono (fun i _ hi => .inr (by rcases hi with rfl | rfl <;> simp [Lay.foot])))
    ((h3.block t (lt_of_block hT.tree) (fun e => e.elim htm.1 htm.2)).trans hT.tree) h2 (fun k hk => .inl hk) hnd (fun q hq => by
      rcases List.mem_or_eq_of_mem_set hq with h | h
      · exact hT.refs _ (List.mem_of_getElem? q2) q h
      · cases h) (fun _ => rfl)
  have e2 : Ls.set d (.dir b m r c) = Ls := by
    apply List.ext_getElem?
    intro i
    by_cases hi : i = d
    · subst hi; rw [List.getElem?_set_self (List.getElem?_eq_some_iff.1 q1).1, q1]
    · rw [List.getElem?_set_ne (fun h => hi h.symm)]
  rw [e2] at hfin
  refine ⟨h1, ?_, h3.mono (fun i _ hi => mem_feet q1 (by rcases hi with rfl | rfl <;> simp [Lay.foot]))⟩
  rw [modify_set q2]
  exact hfin
set_option maxRecDepth 100000 in
set_option maxHeartbeats 4000000 in
theorem rmdir_main (w : World) (t : Nat) (σ : Tr) (Ls : List Lay) (hT : TrAt w t σ Ls) (hOk : ∀ x ∈ σ.nodes, x.Ok) (k : Int) (s s2 : ByteArray) (off m : Int) (dp : Option Addr) (dl dc : Nat) (hs : s.size ≤ 16777216) (d : Nat) (p : List UInt8) (j : Nat) (he : namedE σ.nodes (ofS s) = (0, some ⟨d, p, some j⟩)) (hd : d < σ.nodes.length) (hdk : (nodeAt σ.nodes d).isDir = true) (hlk : lookS (nodeAt σ.nodes d).slots p = some j) (hj : j < σ.nodes.length) (hp : p.length ≤ 1000) :
    Calls Tryz.prog 24 #[ptrV t, callV k s s2 off m (.slice dp dl dc)] w fun e w' => e = .returned (errV (rmdirS σ (ofS s)).1) ∧ Step (fun k => k ∈ feet t Ls) w t w' (rmdirS σ (ofS s)).2 := by
  have HN : Hid (∀ W, Below w.heap.size w W → _) := Hid.mk (fun W (hB : Below w.heap.size w W) => named_any W t σ Ls (hT.below rfl hB) s hs)
  have HT := Hid.mk hT
  rw [he] at HN
  simp only [spotV, optV, ptrV, strV] at HN
  have hsv : rmdirS σ (ofS s) = if (nodeAt σ.nodes j).isDir = true then (if 0 < usedN (nodeAt σ.nodes j).slots then (14, σ) else (0, loseT { σ with nodes := σ.nodes.modify d (fun x => x.del p) } d j)) else (12, σ) := by
    unfold rmdirS
    rw [he]
    rfl
  rw [hsv]
  have HK : Hid (∀ W, Below w.heap.size w W → W.cell? ⟨locL Ls j, 0, none⟩ = some (.int .i64 (nodeAt σ.nodes j).kind)) := Hid.mk (fun W hB => ((hT.below rfl hB).kindAt hj).1)
  rcases kind_two (nodeAt σ.nodes j) with ⟨j1, j2⟩ | ⟨j1, j2⟩
  · rw [if_pos j1]
    have HPL : Hid (∀ W, Below w.heap.size w W → ∃ mj, W.cell? ⟨locL Ls j, 5, none⟩ = some (.map (some mj)) ∧ (Builtin.len_ #[59] 3 #[.map (some mj)]).run Tryz.prog W = .ok (.int .i64 (usedN (nodeAt σ.nodes j).slots : Nat)) W) := Hid.mk (fun W hB => by
      obtain ⟨b, m, r, c, l, z, sl, q1, q2, q3, q4, q5⟩ := (hT.below rfl hB).dirAt hj j1
      refine ⟨m, by rw [q4, blk_cell q3.node]; rfl, ?_⟩
      rw [q5]
      exact q3.places.len Tryz.underlying59 3)
    rw [j2] at HK
    by_cases hu : 0 < usedN (nodeAt σ.nodes j).slots
    · rw [if_pos hu]
      have hui : (0 : Int) < (usedN (nodeAt σ.nodes j).slots : Nat) := by omega
      generalize usedN (nodeAt σ.nodes j).slots = un at *
      clear hT hOk hs he hd hdk hlk hp hsv j1 j2 hu
      unfold callV ptrV at *
      go_enter Tryz.func24, Tryz.ntmps24
      go_wp2_with fail
      obtain ⟨X, hX⟩ : ∃ X, X = (w.alloc (.cells #[.int .i64 k, .string s, .string s2, .int .i64 off, .int .i64 m, .slice dp dl dc] 34)).alloc (.cells #[.int .i64 0, .slice none 0 0, .int .i64 0, .int .i64 0, .int .i64 0, .slice none 0 0, .int .i64 0] 31) := ⟨_, rfl⟩
      have hXB : Below w.heap.size w X := by rw [hX]; exact ((Below.refl _ w).alloc (Nat.le_refl _) _).alloc (by simp) _
      have hXs : X.heap.size = w.heap.size + 2 := by rw [hX]; simp
      have hX0 : X.heap[w.heap.size]? = some (.cells #[.int .i64 k, .string s, .string s2, .int .i64 off, .int .i64 m, .slice dp dl dc] 34 (0, 0)) := by rw [hX, Below.heap_alloc _ _ _ (by simp)]; exact blk_new w _
      have hX1 : X.heap[w.heap.size + 1]? = some (.cells #[.int .i64 0, .slice none 0 0, .int .i64 0, .int .i64 0, .int .i64 0, .slice none 0 0, .int .i64 0] 31 (0, 0)) := by
        rw [hX]
        have := blk_new (w.alloc (.cells #[.int .i64 k, .string s, .string s2, .int .i64 off, .int .i64 m, .slice dp dl dc] 34)) (.cells #[.int .i64 0, .slice none 0 0, .int .i64 0, .int .i64 0, .int .i64 0, .slice none 0 0, .int .i64 0] 31)
        rwa [World.size_alloc] at this
      rw [← hX]
      clear hX
      refine (HN.out X hXB).mono ?_
      rintro e' W1 ⟨rfl, hB1⟩
      have hB : Below w.heap.size w W1 := hXB.trans (hB1.mono (by omega))
      have hbx1 := (hB1.block (w.heap.size + 1) (by omega)).trans hX1
      have hB2 : Below w.heap.size w (W1.alloc (.cells #[.pointer (some ⟨locL Ls d, 0, none⟩), .string (mkS p), .pointer (some ⟨locL Ls j, 0, none⟩)] 69)) := hB.alloc hB.size _
      have HB1 : Hid ((W1.alloc (.cells #[.pointer (some ⟨locL Ls d, 0, none⟩), .string (mkS p), .pointer (some ⟨locL Ls j, 0, none⟩)] 69)).heap[w.heap.size + 1]? = some (.cells #[.int .i64 0, .slice none 0 0, .int .i64 0, .int .i64 0, .int .i64 0, .slice none 0 0, .int .i64 0] 31 (0, 0))) := Hid.mk ((Below.heap_alloc _ _ _ (lt_of_block hbx1)).trans hbx1)
      have HBB := Hid.mk hB2
      have HSZ : Hid (w.heap.size + 2 ≤ W1.heap.size) := Hid.mk (by have := hB1.size; omega)
      have kd := HK.out _ hB2
      obtain ⟨mj, p5, plen⟩ := HPL.out _ hB2
      clear hB hB1 hX0 hX1 hXB hXs hbx1 hB2
      go_wp2_with (go_at_call 19; refine (failed_any _ _).mono ?_; rintro e' W3 ⟨rfl, hb3⟩; have hbx := (hb3.block _ (lt_of_block HB1.out)).trans HB1.out; have z0 := blk_cell hbx 0; have y0 := blk_free hbx 0; have z1 := blk_cell hbx 1; have y1 := blk_free hbx 1; have z2 := blk_cell hbx 2; have y2 := blk_free hbx 2; have z3 := blk_cell hbx 3; have y3 := blk_free hbx 3; have z4 := blk_cell hbx 4; have y4 := blk_free hbx 4; have z5 := blk_cell hbx 5; have y5 := blk_free hbx 5; have z6 := blk_cell hbx 6; have y6 := blk_free hbx 6; simp at z0 z1 z2 z3 z4 z5 z6; have BXX := Hid.mk hbx; have HB3 := Hid.mk hb3; unfold errV; clear hbx hb3)
      have hb7 := (box7 BXX.out (.int .i64 14) (.slice none 0 0) (.int .i64 0) (.int .i64 0) (.int .i64 0) (.slice none 0 0) (.int .i64 0)).1
      have ho7 := (box7 BXX.out (.int .i64 14) (.slice none 0 0) (.int .i64 0) (.int .i64 0) (.int .i64 0) (.slice none 0 0) (.int .i64 0)).2
      obtain ⟨Y, hY⟩ : ∃ Y, Y = (((((((W3.setCell ⟨w.heap.size + 1, 0, none⟩ (.int .i64 14)).setCell ⟨w.heap.size + 1, 1, none⟩ (.slice none 0 0)).setCell ⟨w.heap.size + 1, 2, none⟩ (.int .i64 0)).setCell ⟨w.heap.size + 1, 3, none⟩ (.int .i64 0)).setCell ⟨w.heap.size + 1, 4, none⟩ (.int .i64 0)).setCell ⟨w.heap.size + 1, 5, none⟩ (.slice none 0 0)).setCell ⟨w.heap.size + 1, 6, none⟩ (.int .i64 0)) := ⟨_, rfl⟩
      rw [← hY] at hb7 ho7 ⊢
      have k0 := blk_cell hb7 0
      have k1 := blk_cell hb7 1
      have k2 := blk_cell hb7 2
      have k3 := blk_cell hb7 3
      have k4 := blk_cell hb7 4
      have k5 := blk_cell hb7 5
      have k6 := blk_cell hb7 6
      simp at k0 k1 k2 k3 k4 k5 k6
      refine bodyPost_ret (v := errV 14) ?_ rfl ?_
      · simp [results, Tryz.results24, go_sem, errV, k0, k1, k2, k3, k4, k5, k6]
      · exact ⟨rfl, by have h1 := HBB.out.trans (HB3.out.mono HBB.out.size); exact Step.still HT.out (fun k hk => hk) (((Only.of_below (S := fun _ => False) h1 (fun k h1 h2 => by omega)).trans ho7 (fun i hi => .inr (by omega))).below (Nat.le_refl _) (fun _ h => h.elim))⟩
    · rw [if_neg hu]
      have hui : ¬ (0 : Int) < (usedN (nodeAt σ.nodes j).slots : Nat) := by omega
      have HOK := Hid.mk hOk
      generalize usedN (nodeAt σ.nodes j).slots = un at *
      clear hT hOk hs he hsv j2 hu
      unfold callV ptrV at *
      go_enter Tryz.func24, Tryz.ntmps24
      go_wp2_with fail
      obtain ⟨X, hX⟩ : ∃ X, X = (w.alloc (.cells #[.int .i64 k, .string s, .string s2, .int .i64 off, .int .i64 m, .slice dp dl dc] 34)).alloc (.cells #[.int .i64 0, .slice none 0 0, .int .i64 0, .int .i64 0, .int .i64 0, .slice none 0 0, .int .i64 0] 31) := ⟨_, rfl⟩
      have hXB : Below w.heap.size w X := by rw [hX]; exact ((Below.refl _ w).alloc (Nat.le_refl _) _).alloc (by simp) _
      have hXs : X.heap.size = w.heap.size + 2 := by rw [hX]; simp
      have hX0 : X.heap[w.heap.size]? = some (.cells #[.int .i64 k, .string s, .string s2, .int .i64 off, .int .i64 m, .slice dp dl dc] 34 (0, 0)) := by rw [hX, Below.heap_alloc _ _ _ (by simp)]; exact blk_new w _
      have hX1 : X.heap[w.heap.size + 1]? = some (.cells #[.int .i64 0, .slice none 0 0, .int .i64 0, .int .i64 0, .int .i64 0, .slice none 0 0, .int .i64 0] 31 (0, 0)) := by
        rw [hX]
        have := blk_new (w.alloc (.cells #[.int .i64 k, .string s, .string s2, .int .i64 off, .int .i64 m, .slice dp dl dc] 34)) (.cells #[.int .i64 0, .slice none 0 0, .int .i64 0, .int .i64 0, .int .i64 0, .slice none 0 0, .int .i64 0] 31)
        rwa [World.size_alloc] at this
      rw [← hX]
      clear hX
      refine (HN.out X hXB).mono ?_
      rintro e' W1 ⟨rfl, hB1⟩
      have hB : Below w.heap.size w W1 := hXB.trans (hB1.mono (by omega))
      have hbx1 := (hB1.block (w.heap.size + 1) (by omega)).trans hX1
      obtain ⟨X2, hX2⟩ : ∃ X2, X2 = W1.alloc (.cells #[.pointer (some ⟨locL Ls d, 0, none⟩), .string (mkS p), .pointer (some ⟨locL Ls j, 0, none⟩)] 69) := ⟨_, rfl⟩
      have hB2 : Below w.heap.size w X2 := by rw [hX2]; exact hB.alloc hB.size _
      have hbx2 : X2.heap[w.heap.size + 1]? = some (.cells #[.int .i64 0, .slice none 0 0, .int .i64 0, .int .i64 0, .int .i64 0, .slice none 0 0, .int .i64 0] 31 (0, 0)) := by rw [hX2]; exact (Below.heap_alloc _ _ _ (lt_of_block hbx1)).trans hbx1
      have hsp : X2.heap[W1.heap.size]? = some (.cells #[.pointer (some ⟨locL Ls d, 0, none⟩), .string (mkS p), .pointer (some ⟨locL Ls j, 0, none⟩)] 69 (0, 0)) := by rw [hX2]; exact blk_new W1 _
      have HW1 : Hid (w.heap.size + 2 ≤ W1.heap.size) := Hid.mk (by have := hB1.size; omega)
      go_upto_region 4 with fail
      rw [← hX2]
      clear hX2
      generalize W1.heap.size = sb at *
      have kd := HK.out _ hB2
      obtain ⟨mj, p5, plen⟩ := HPL.out _ hB2
      have x0 := blk_cell hsp 0
      have x1 := blk_cell hsp 1
      have x2 := blk_cell hsp 2
      simp at x0 x1 x2
      have HRE := Hid.mk (remove_tree X2 t σ Ls (HT.out.below rfl hB2) d p j hd hdk hlk hp)
      unfold ptrV strV at HRE
      have HBB := Hid.mk hB2
      have HBX := Hid.mk hbx2
      have HSP := Hid.mk hsp
      clear hB hB1 hX0 hX1 hXB hXs hbx1 hB2 hbx2 hsp
      go_upto_region 9 with (go_at_call 42; refine HRE.out.mono ?_; rintro e' W4 ⟨rfl, hT4, ho4⟩; have HT4 := Hid.mk hT4; have HO4 := Hid.mk ho4; clear hT4 ho4)
      have hnf : ∀ q, w.heap.size ≤ q → q ∉ feet t Ls := fun q hq h => by have := HT.out.lt q h; omega
      have hs4 := (HO4.out.block sb (lt_of_block HSP.out) (hnf sb (by have := HW1.out; omega))).trans HSP.out
      have hb4 := (HO4.out.block (w.heap.size + 1) (lt_of_block HBX.out) (hnf _ (by omega))).trans HBX.out
      have u0 := blk_cell hs4 0
      have u1 := blk_cell hs4 1
      have u2 := blk_cell hs4 2
      simp at u0 u1 u2
      have HLO := Hid.mk (lose_dir W4 t { σ with nodes := σ.nodes.modify d (fun x => x.del p) } Ls HT4.out (del_ok HOK.out d p) d j (mkS p) (by simpa using hd) (del_dir d d p hdk) (by simpa using hj) (del_dir j d p j1))
      unfold ptrV at HLO
      have HB4 := Hid.mk hb4
      have HS4 : Hid (w.heap.size + 1 < W4.heap.size) := Hid.mk (lt_of_block hb4)
      clear hs4 hb4 x0 x1 x2 kd p5 plen
      go_wp2_with (go_at_call 43; refine HLO.out.mono ?_; rintro e' W3 ⟨rfl, hst⟩; have hbx := (hst.only.block (w.heap.size + 1) HS4.out (fun h => by have := HT.out.lt _ h; omega)).trans HB4.out; have z0 := blk_cell hbx 0; have y0 := blk_free hbx 0; have z1 := blk_cell hbx 1; have y1 := blk_free hbx 1; have z2 := blk_cell hbx 2; have y2 := blk_free hbx 2; have z3 := blk_cell hbx 3; have y3 := blk_free hbx 3; have z4 := blk_cell hbx 4; have y4 := blk_free hbx 4; have z5 := blk_cell hbx 5; have y5 := blk_free hbx 5; have z6 := blk_cell hbx 6; have y6 := blk_free hbx 6; simp at z0 z1 z2 z3 z4 z5 z6; have BXX := Hid.mk hbx; have ST := Hid.mk hst; clear hbx hst)
      have hb7 := (box7 BXX.out (.int .i64 0) (.slice none 0 0) (.int .i64 0) (.int .i64 0) (.int .i64 0) (.slice none 0 0) (.int .i64 0)).1
      have ho7 := (box7 BXX.out (.int .i64 0) (.slice none 0 0) (.int .i64 0) (.int .i64 0) (.int .i64 0) (.slice none 0 0) (.int .i64 0)).2
      obtain ⟨Y, hY⟩ : ∃ Y, Y = (((((((W3.setCell ⟨w.heap.size + 1, 0, none⟩ (.int .i64 0)).setCell ⟨w.heap.size + 1, 1, none⟩ (.slice none 0 0)).setCell ⟨w.heap.size + 1, 2, none⟩ (.int .i64 0)).setCell ⟨w.heap.size + 1, 3, none⟩ (.int .i64 0)).setCell ⟨w.heap.size + 1, 4, none⟩ (.int .i64 0)).setCell ⟨w.heap.size + 1, 5, none⟩ (.slice none 0 0)).setCell ⟨w.heap.size + 1, 6, none⟩ (.int .i64 0)) := ⟨_, rfl⟩
      rw [← hY] at hb7 ho7 ⊢
      have k0 := blk_cell hb7 0
      have k1 := blk_cell hb7 1
      have k2 := blk_cell hb7 2
      have k3 := blk_cell hb7 3
      have k4 := blk_cell hb7 4
      have k5 := blk_cell hb7 5
      have k6 := blk_cell hb7 6
      simp at k0 k1 k2 k3 k4 k5 k6
      refine bodyPost_ret (v := errV 0) ?_ rfl ?_
      · simp [results, Tryz.results24, go_sem, errV, k0, k1, k2, k3, k4, k5, k6]
      · refine ⟨rfl, ?_⟩
        have hw4 : Only (fun k => k ∈ feet t Ls) w W4 := (Only.of_new (fun k => k ∈ feet t Ls) HBB.out).trans HO4.out (fun i hi => .inl hi)
        obtain ⟨⟨Ls', h1, h2⟩, h3⟩ := ST.out
        refine ⟨⟨Ls', h1.kept (fun k hk => ho7.block k (h1.lt k hk) (fun e => ?_)), fun k hk => ?_⟩, (hw4.trans h3 (fun i hi => .inl hi)).trans ho7 (fun i hi => .inr (by omega))⟩
        · subst e
          rcases h2 _ hk with h | h
          · have := HT.out.lt _ h; omega
          · have := HS4.out; omega
        · rcases h2 k hk with h | h
          · exact .inl h
          · exact .inr (Nat.le_trans hw4.size h)
  · rw [if_neg (by rw [j1]; decide)]
    rw [j2] at HK
    clear hT hOk hs he hd hdk hlk hp hsv j1 j2
    unfold callV ptrV at *
    go_enter Tryz.func24, Tryz.ntmps24
    go_wp2_with fail
    obtain ⟨X, hX⟩ : ∃ X, X = (w.alloc (.cells #[.int .i64 k, .string s, .string s2, .int .i64 off, .int .i64 m, .slice dp dl dc] 34)).alloc (.cells #[.int .i64 0, .slice none 0 0, .int .i64 0, .int .i64 0, .int .i64 0, .slice none 0 0, .int .i64 0] 31) := ⟨_, rfl⟩
    have hXB : Below w.heap.size w X := by rw [hX]; exact ((Below.refl _ w).alloc (Nat.le_refl _) _).alloc (by simp) _
    have hXs : X.heap.size = w.heap.size + 2 := by rw [hX]; simp
    have hX0 : X.heap[w.heap.size]? = some (.cells #[.int .i64 k, .string s, .string s2, .int .i64 off, .int .i64 m, .slice dp dl dc] 34 (0, 0)) := by rw [hX, Below.heap_alloc _ _ _ (by simp)]; exact blk_new w _
    have hX1 : X.heap[w.heap.size + 1]? = some (.cells #[.int .i64 0, .slice none 0 0, .int .i64 0, .int .i64 0, .int .i64 0, .slice none 0 0, .int .i64 0] 31 (0, 0)) := by
      rw [hX]
      have := blk_new (w.alloc (.cells #[.int .i64 k, .string s, .string s2, .int .i64 off, .int .i64 m, .slice dp dl dc] 34)) (.cells #[.int .i64 0, .slice none 0 0, .int .i64 0, .int .i64 0, .int .i64 0, .slice none 0 0, .int .i64 0] 31)
      rwa [World.size_alloc] at this
    rw [← hX]
    clear hX
    refine (HN.out X hXB).mono ?_
    rintro e' W1 ⟨rfl, hB1⟩
    have hB : Below w.heap.size w W1 := hXB.trans (hB1.mono (by omega))
    have hbx1 := (hB1.block (w.heap.size + 1) (by omega)).trans hX1
    have hB2 : Below w.heap.size w (W1.alloc (.cells #[.pointer (some ⟨locL Ls d, 0, none⟩), .string (mkS p), .pointer (some ⟨locL Ls j, 0, none⟩)] 69)) := hB.alloc hB.size _
    have HB1 : Hid ((W1.alloc (.cells #[.pointer (some ⟨locL Ls d, 0, none⟩), .string (mkS p), .pointer (some ⟨locL Ls j, 0, none⟩)] 69)).heap[w.heap.size + 1]? = some (.cells #[.int .i64 0, .slice none 0 0, .int .i64 0, .int .i64 0, .int .i64 0, .slice none 0 0, .int .i64 0] 31 (0, 0))) := Hid.mk ((Below.heap_alloc _ _ _ (lt_of_block hbx1)).trans hbx1)
    have HBB := Hid.mk hB2
    have HSZ : Hid (w.heap.size + 2 ≤ W1.heap.size) := Hid.mk (by have := hB1.size; omega)
    have kd := HK.out _ hB2
    clear hB hB1 hX0 hX1 hXB hXs hbx1 hB2
    go_wp2_with (go_at_call 19; refine (failed_any _ _).mono ?_; rintro e' W3 ⟨rfl, hb3⟩; have hbx := (hb3.block _ (lt_of_block HB1.out)).trans HB1.out; have z0 := blk_cell hbx 0; have y0 := blk_free hbx 0; have z1 := blk_cell hbx 1; have y1 := blk_free hbx 1; have z2 := blk_cell hbx 2; have y2 := blk_free hbx 2; have z3 := blk_cell hbx 3; have y3 := blk_free hbx 3; have z4 := blk_cell hbx 4; have y4 := blk_free hbx 4; have z5 := blk_cell hbx 5; have y5 := blk_free hbx 5; have z6 := blk_cell hbx 6; have y6 := blk_free hbx 6; simp at z0 z1 z2 z3 z4 z5 z6; have BXX := Hid.mk hbx; have HB3 := Hid.mk hb3; unfold errV; clear hbx hb3)
    have hb7 := (box7 BXX.out (.int .i64 12) (.slice none 0 0) (.int .i64 0) (.int .i64 0) (.int .i64 0) (.slice none 0 0) (.int .i64 0)).1
    have ho7 := (box7 BXX.out (.int .i64 12) (.slice none 0 0) (.int .i64 0) (.int .i64 0) (.int .i64 0) (.slice none 0 0) (.int .i64 0)).2
    obtain ⟨Y, hY⟩ : ∃ Y, Y = (((((((W3.setCell ⟨w.heap.size + 1, 0, none⟩ (.int .i64 12)).setCell ⟨w.heap.size + 1, 1, none⟩ (.slice none 0 0)).setCell ⟨w.heap.size + 1, 2, none⟩ (.int .i64 0)).setCell ⟨w.heap.size + 1, 3, none⟩ (.int .i64 0)).setCell ⟨w.heap.size + 1, 4, none⟩ (.int .i64 0)).setCell ⟨w.heap.size + 1, 5, none⟩ (.slice none 0 0)).setCell ⟨w.heap.size + 1, 6, none⟩ (.int .i64 0)) := ⟨_, rfl⟩
    rw [← hY] at hb7 ho7 ⊢
    have k0 := blk_cell hb7 0
    have k1 := blk_cell hb7 1
    have k2 := blk_cell hb7 2
    have k3 := blk_cell hb7 3
    have k4 := blk_cell hb7 4
    have k5 := blk_cell hb7 5
    have k6 := blk_cell hb7 6
    simp at k0 k1 k2 k3 k4 k5 k6
    refine bodyPost_ret (v := errV 12) ?_ rfl ?_
    · simp [results, Tryz.results24, go_sem, errV, k0, k1, k2, k3, k4, k5, k6]
    · exact ⟨rfl, by have h1 := HBB.out.trans (HB3.out.mono HBB.out.size); exact Step.still HT.out (fun k hk => hk) (((Only.of_below (S := fun _ => False) h1 (fun k h1 h2 => by omega)).trans ho7 (fun i hi => .inr (by omega))).below (Nat.le_refl _) (fun _ h => h.elim))⟩
end Go.Proofs.YtehaoeclnmelhacGreat
