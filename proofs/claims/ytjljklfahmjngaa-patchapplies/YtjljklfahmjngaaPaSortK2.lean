/-
  slices.SortFunc and cmp.Compare at this program, and the rows of changes sorted by where they begin.
-/
import Derived.Test.YtjljklfahmjngaaPaHead
import Derived.Test.YtjljklfahmjngaaPaRange3
import Derived.Shelf.SlSortCmp.Whole1
import Derived.Shelf.SlicesG.Cmp
import Derived.Sort.OwnSortedInts
namespace Go.Proofs.Ytjljklfahmjngaa
open Go Go.Proofs Go.RowKit Go.Shelf Go.Lib Go.Sort
attribute [local go_sem] Oper.semAt_some
def sortFA_ren : Go.Shelf.Ren := ⟨fun | 6 => 34 | 15 => 41 | 14 => 40 | 28 => 52 | 29 => 53 | 20 => 44 | 21 => 45 | 22 => 46 | 23 => 47 | 24 => 48 | 25 => 49 | 26 => 50 | 27 => 51 | 46 => 54 | 47 => 55 | 48 => 56 | 49 => 57 | 50 => 58 | 57 => 59 | n => n, fun | 22 => 24 | 24 => 3 | 25 => 68 | 3 => 3 | 39 => 78 | 0 => 0 | 53 => 90 | 55 => 57 | 4 => 4 | 46 => 84 | 45 => 83 | 50 => 51 | 5 => 5 | 9 => 9 | 66 => 92 | 70 => 96 | 76 => 98 | 77 => 99 | n => n, fun | n => n⟩
theorem sortFA : Go.Proofs.SlLaysF.n6 Try.prog sortFA_ren := {
  mixed := by kernel_rfl
  f6 := ⟨Try.f34.name, by decide, Try.func34.trans (congrArg some (by kernel_rfl))⟩
  f14 := ⟨Try.f40.name, by decide, Try.func40.trans (congrArg some (by kernel_rfl))⟩
  f15 := Try.func41.trans (congrArg some (by kernel_rfl))
  f20 := ⟨Try.f44.name, by decide, Try.func44.trans (congrArg some (by kernel_rfl))⟩
  f21 := ⟨Try.f45.name, by decide, Try.func45.trans (congrArg some (by kernel_rfl))⟩
  f22 := ⟨Try.f46.name, by decide, Try.func46.trans (congrArg some (by kernel_rfl))⟩
  f23 := ⟨Try.f47.name, by decide, Try.func47.trans (congrArg some (by kernel_rfl))⟩
  f24 := ⟨Try.f48.name, by decide, Try.func48.trans (congrArg some (by kernel_rfl))⟩
  f25 := ⟨Try.f49.name, by decide, Try.func49.trans (congrArg some (by kernel_rfl))⟩
  f26 := ⟨Try.f50.name, by decide, Try.func50.trans (congrArg some (by kernel_rfl))⟩
  f27 := ⟨Try.f51.name, by decide, Try.func51.trans (congrArg some (by kernel_rfl))⟩
  f28 := Try.func52.trans (congrArg some (by kernel_rfl))
  f29 := Try.func53.trans (congrArg some (by kernel_rfl))
  f46 := ⟨Try.f54.name, by decide, Try.func54.trans (congrArg some (by kernel_rfl))⟩
  f47 := Try.func55.trans (congrArg some (by kernel_rfl))
  f48 := Try.func56.trans (congrArg some (by kernel_rfl))
  f49 := ⟨Try.f57.name, by decide, Try.func57.trans (congrArg some (by kernel_rfl))⟩
  f50 := ⟨Try.f58.name, by decide, Try.func58.trans (congrArg some (by kernel_rfl))⟩
  f57 := ⟨Try.f59.name, by decide, Try.func59.trans (congrArg some (by kernel_rfl))⟩
  t0 := Try.underlying0
  a0 := Try.isAgg0
  z0 := Try.sizeOf0
  v0 := Try.zeroValue0
  t3 := Try.underlying3
  a3 := Try.isAgg3
  z3 := Try.sizeOf3
  v3 := Try.zeroValue3
  t4 := Try.underlying4
  a4 := Try.isAgg4
  z4 := Try.sizeOf4
  v4 := Try.zeroValue4
  t5 := Try.underlying5
  a5 := Try.isAgg5
  z5 := Try.sizeOf5
  v5 := Try.zeroValue5
  t9 := Try.underlying9
  a9 := Try.isAgg9
  z9 := Try.sizeOf9
  v9 := Try.zeroValue9
  t22 := Try.underlying24
  a22 := Try.isAgg24
  z22 := Try.sizeOf24
  v22 := Try.zeroValue24
  a24 := Try.isAgg3
  z24 := Try.sizeOf3
  t25 := Try.underlying68
  a25 := Try.isAgg68
  z25 := Try.sizeOf68
  v25 := Try.zeroValue68
  t39 := Try.underlying78
  a39 := Try.isAgg78
  z39 := Try.sizeOf78
  v39 := Try.zeroValue78
  t45 := Try.underlying83
  a45 := Try.isAgg83
  z45 := Try.sizeOf83
  v45 := Try.zeroValue83
  t46 := Try.underlying84
  a46 := Try.isAgg84
  z46 := Try.sizeOf84
  v46 := Try.zeroValue84
  t50 := Try.underlying51
  a50 := Try.isAgg51
  z50 := Try.sizeOf51
  v50 := Try.zeroValue51
  t53 := Try.underlying90
  a53 := Try.isAgg90
  z53 := Try.sizeOf90
  v53 := Try.zeroValue90
  t55 := Try.underlying57
  a55 := Try.isAgg57
  z55 := Try.sizeOf57
  v55 := Try.zeroValue57
  t66 := Try.underlying92
  a66 := Try.isAgg92
  z66 := Try.sizeOf92
  v66 := Try.zeroValue92
  t70 := Try.underlying96
  a70 := Try.isAgg96
  z70 := Try.sizeOf96
  v70 := Try.zeroValue96
  t76 := Try.underlying98
  a76 := Try.isAgg98
  z76 := Try.sizeOf98
  v76 := Try.zeroValue98
  t77 := Try.underlying99
  a77 := Try.isAgg99
  z77 := Try.sizeOf99
  v77 := Try.zeroValue99 }
def cmpA_ren : Go.Shelf.Ren := ⟨fun | 5 => 36 | 7 => 42 | n => n, fun | 22 => 3 | 3 => 3 | 4 => 4 | n => n, fun | n => n⟩
theorem cmpA : Go.Proofs.SlLaysC2.n5 Try.prog cmpA_ren := {
  mixed := by kernel_rfl
  f5 := ⟨Try.f36.name, by decide, Try.func36.trans (congrArg some (by kernel_rfl))⟩
  f7 := ⟨Try.f42.name, by decide, Try.func42.trans (congrArg some (by kernel_rfl))⟩
  t3 := Try.underlying3
  a3 := Try.isAgg3
  z3 := Try.sizeOf3
  v3 := Try.zeroValue3
  t4 := Try.underlying4
  a4 := Try.isAgg4
  z4 := Try.sizeOf4
  v4 := Try.zeroValue4
  t22 := Try.underlying3
  a22 := Try.isAgg3
  z22 := Try.sizeOf3
  v22 := Try.zeroValue3 }
/-- Where a change begins. -/
def atF (L : List Pt) (mm : Nat) (k : Fin (mm + 1)) : Int := (L.getD k.val noP).at'
def cfF (L : List Pt) (mm : Nat) (i j : Fin (mm + 1)) : Int := Lib.compareInt (atF L mm i) (atF L mm j)
theorem lt_cf (L : List Pt) (mm : Nat) (i j : Fin (mm + 1)) : ltOf (cfF L mm) i j = decide (atF L mm i < atF L mm j) := by
  unfold ltOf cfF Lib.compareInt
  by_cases h1 : atF L mm i < atF L mm j
  · simp [h1]
  · by_cases h2 : atF L mm j < atF L mm i <;> simp [h1, h2]
theorem swo_cf (L : List Pt) (mm : Nat) : SWO (ltOf (cfF L mm)) where
  irrefl x := by rw [lt_cf]; simp
  trans x y z h1 h2 := by rw [lt_cf] at *; simp at *; omega
  ntrans x y z h1 h2 := by rw [lt_cf] at *; simp at *; omega
set_option maxRecDepth 100000 in
/-- The comparison: where two changes begin. -/
theorem cmp_cl (W : World) (bl : Nat) (ao : Option Addr) (m c : Nat) (L : List Pt) (hb : W.cell? ⟨bl, 0, none⟩ = some (.slice ao m c)) (hpc : PcAt W ao m L) (i j : Nat) (hi : i < m) (hj : j < m) :
    Calls Try.prog 35 #[.int .i64 i, .int .i64 j, .pointer (some ⟨bl, 0, none⟩)] W fun e w' => e = .returned (.int .i64 (Lib.compareInt (L.getD i noP).at' (L.getD j noP).at')) ∧ ∃ q, w' = W.drewN q := by
  obtain ⟨a, rfl, x0, x1, x2⟩ := hpc.load i hi
  obtain ⟨a', e, y0, y1, y2⟩ := hpc.load j hj
  cases e
  have hi' : (i : Int) < (m : Int) := by omega
  have hj' : (j : Int) < (m : Int) := by omega
  have i0 : (0 : Int) ≤ (i : Int) := by omega
  have j0 : (0 : Int) ≤ (j : Int) := by omega
  generalize (L.getD i noP).at' = p at *
  generalize (L.getD j noP).at' = q at *
  have HCM := Hid.mk (fun (w : World) => AnyG.cmp_Compare_int cmpA p q w)
  generalize Lib.compareInt p q = r at HCM ⊢
  have hH : (fun V : World => V.cell? ⟨bl, 0, none⟩ = some (.slice (some a) m c) ∧ V.cell? ⟨(a.add (i * 3)).block, (a.add (i * 3)).off + 1, none⟩ = some (.int .i64 p) ∧ V.cell? ⟨(a.add (j * 3)).block, (a.add (j * 3)).off + 1, none⟩ = some (.int .i64 q)) W.drew := ⟨hb, x1, y1⟩
  clear hb hpc x0 x1 x2 y0 y1 y2 hi hj
  go_enter Try.func35, Try.ntmps35
  go_wp2
  refine wp_region_held_drew (S := fun V : World => V.cell? ⟨bl, 0, none⟩ = some (.slice (some a) m c) ∧ V.cell? ⟨(a.add (i * 3)).block, (a.add (i * 3)).off + 1, none⟩ = some (.int .i64 p) ∧ V.cell? ⟨(a.add (j * 3)).block, (a.add (j * 3)).off + 1, none⟩ = some (.int .i64 q)) (by kernel_rfl) hH (fun hH => ?_)
  change wpAnyH Try.prog Region.Mode.any _ _ _ 12 _ _ _
  refine takeH 0 6 (.slice (some a) m c) rfl (by kernel_rfl) (by kernel_rfl) (by kernel_rfl) (by kernel_rfl) (fun _ _ _ h => h) (by kernel_rfl) (fun w hw => by ((try dsimp only at hw); obtain ⟨hw1, hw2, hw3⟩ := hw; go_simp)) hH ?_
  simp only [List.setIfInBounds_toArray, List.set_cons_zero, List.set_cons_succ]
  refine takeH 1 7 (.int .i64 i) rfl (by kernel_rfl) (by kernel_rfl) (by kernel_rfl) (by kernel_rfl) (fun _ _ _ h => h) (by kernel_rfl) (fun w hw => by kernel_rfl) hH ?_
  simp only [List.setIfInBounds_toArray, List.set_cons_zero, List.set_cons_succ]
  refine takeH 2 8 (.pointer (some (a.add (i * 3)))) rfl (by kernel_rfl) (by kernel_rfl) (by kernel_rfl) (by kernel_rfl) (fun _ _ _ h => h) (by kernel_rfl) (fun w hw => by go_simp) hH ?_
  simp only [List.setIfInBounds_toArray, List.set_cons_zero, List.set_cons_succ]
  refine takeH 3 9 (.pointer (some ⟨(a.add (i * 3)).block, (a.add (i * 3)).off + 1, none⟩)) rfl (by kernel_rfl) (by kernel_rfl) (by kernel_rfl) (by kernel_rfl) (fun _ _ _ h => h) (by kernel_rfl) (fun w hw => by go_simp) hH ?_
  simp only [List.setIfInBounds_toArray, List.set_cons_zero, List.set_cons_succ]
  refine takeH 4 10 (.int .i64 p) rfl (by kernel_rfl) (by kernel_rfl) (by kernel_rfl) (by kernel_rfl) (fun _ _ _ h => h) (by kernel_rfl) (fun w hw => by ((try dsimp only at hw); obtain ⟨hw1, hw2, hw3⟩ := hw; go_simp)) hH ?_
  simp only [List.setIfInBounds_toArray, List.set_cons_zero, List.set_cons_succ]
  refine takeH 5 11 (.slice (some a) m c) rfl (by kernel_rfl) (by kernel_rfl) (by kernel_rfl) (by kernel_rfl) (fun _ _ _ h => h) (by kernel_rfl) (fun w hw => by ((try dsimp only at hw); obtain ⟨hw1, hw2, hw3⟩ := hw; go_simp)) hH ?_
  simp only [List.setIfInBounds_toArray, List.set_cons_zero, List.set_cons_succ]
  refine takeH 6 12 (.int .i64 j) rfl (by kernel_rfl) (by kernel_rfl) (by kernel_rfl) (by kernel_rfl) (fun _ _ _ h => h) (by kernel_rfl) (fun w hw => by kernel_rfl) hH ?_
  simp only [List.setIfInBounds_toArray, List.set_cons_zero, List.set_cons_succ]
  refine takeH 7 13 (.pointer (some (a.add (j * 3)))) rfl (by kernel_rfl) (by kernel_rfl) (by kernel_rfl) (by kernel_rfl) (fun _ _ _ h => h) (by kernel_rfl) (fun w hw => by go_simp) hH ?_
  simp only [List.setIfInBounds_toArray, List.set_cons_zero, List.set_cons_succ]
  refine takeH 8 14 (.pointer (some ⟨(a.add (j * 3)).block, (a.add (j * 3)).off + 1, none⟩)) rfl (by kernel_rfl) (by kernel_rfl) (by kernel_rfl) (by kernel_rfl) (fun _ _ _ h => h) (by kernel_rfl) (fun w hw => by go_simp) hH ?_
  simp only [List.setIfInBounds_toArray, List.set_cons_zero, List.set_cons_succ]
  refine takeH 9 15 (.int .i64 q) rfl (by kernel_rfl) (by kernel_rfl) (by kernel_rfl) (by kernel_rfl) (fun _ _ _ h => h) (by kernel_rfl) (fun w hw => by ((try dsimp only at hw); obtain ⟨hw1, hw2, hw3⟩ := hw; go_simp)) hH ?_
  simp only [List.setIfInBounds_toArray, List.set_cons_zero, List.set_cons_succ]
  refine stepH_call 10 16 rfl (by kernel_rfl) (by kernel_rfl) (by kernel_rfl) 36 #[.tmp 10, .tmp 15] #[3, 3] (by kernel_rfl) (enters_of Try.func36 (by kernel_rfl) rfl) #[.int .i64 p, .int .i64 q] (by kernel_rfl) (HCM.out _) ?_
  rintro e w4 ⟨rfl, hw4⟩
  subst hw4
  refine ⟨_, rfl, hH, ?_⟩
  simp only [List.setIfInBounds_toArray, List.set_cons_zero, List.set_cons_succ]
  refine takeH 11 5 (.int .i64 r) rfl (by kernel_rfl) (by kernel_rfl) (by kernel_rfl) (by kernel_rfl) (fun _ _ _ h => h) (by kernel_rfl) (fun w hw => by kernel_rfl) hH ?_
  simp only [List.setIfInBounds_toArray, List.set_cons_zero, List.set_cons_succ]
  refine wpAnyH_done (by kernel_rfl) ?_ _
  go_wp2
  go_ret
  exact ⟨rfl, 1, rfl⟩
/-- The numbers of those that have bytes, of the first k. -/
def ixL (L : List Pt) (k : Nat) : List Nat := (List.range k).filter (fun i => decide (0 < (L.getD i noP).n))
def encF (mm : Nat) (k : Fin (mm + 1)) : Value := .int .i64 (k.val : Nat)
def dF (L : List Pt) (mm : Nat) : Array (Fin (mm + 1)) := ((ixL L (mm + 1)).map (fun i => Fin.ofNat (mm + 1) i)).toArray
def sortF (L : List Pt) (mm : Nat) : Array (Fin (mm + 1)) := pdq (ltOf (cfF L mm)) (dF L mm) 0 (dF L mm).size (Lib.bitLen (dF L mm).size) true true
/-- Those that have bytes, by where they begin. -/
def ordL (L : List Pt) : List Nat := match L.length with
  | 0 => []
  | mm + 1 => (sortF L mm).toList.map (·.val)
theorem ix_lt {L : List Pt} {k i : Nat} (h : i ∈ ixL L k) : i < k ∧ 0 < (L.getD i noP).n := by
  obtain ⟨h1, h2⟩ := List.mem_filter.1 h
  exact ⟨List.mem_range.1 h1, decide_eq_true_iff.1 h2⟩
theorem ix_no {L : List Pt} {k : Nat} (h : ¬ 0 < (L.getD k noP).n) : ixL L (k + 1) = ixL L k := by
  unfold ixL
  rw [List.range_succ, List.filter_append, List.filter_cons, decide_eq_false h, if_neg (by simp), List.filter_nil, List.append_nil]
theorem ix_yes {L : List Pt} {k : Nat} (h : 0 < (L.getD k noP).n) : ixL L (k + 1) = ixL L k ++ [k] := by
  unfold ixL
  rw [List.range_succ, List.filter_append, List.filter_cons, decide_eq_true h, if_pos rfl, List.filter_nil]
theorem ix_len (L : List Pt) (k : Nat) : (ixL L k).length ≤ k := by
  have := List.length_filter_le (fun i => decide (0 < (L.getD i noP).n)) (List.range k)
  rwa [List.length_range] at this
theorem dF_val (L : List Pt) (mm : Nat) : (dF L mm).toList.map (·.val) = ixL L (mm + 1) := by
  unfold dF
  simp only [List.map_map]
  conv => rhs; rw [← List.map_id (ixL L (mm + 1))]
  refine List.map_congr_left (fun i hi => ?_)
  simp only [Function.comp, id, Fin.ofNat]
  exact Nat.mod_eq_of_lt (ix_lt hi).1
theorem sortF_is (L : List Pt) (mm : Nat) : (sortF L mm).toList.Perm (dF L mm).toList ∧ (sortF L mm).size = (dF L mm).size ∧ SortedIn (ltOf (cfF L mm)) 0 (dF L mm).size (sortF L mm) := by
  have h := pdq_sorts (ltOf (cfF L mm)) (swo_cf L mm) (dF L mm) 0 (dF L mm).size (Lib.bitLen (dF L mm).size) true true (Nat.zero_le _) (Nat.le_refl _) (Or.inl rfl)
  obtain ⟨⟨h1, h2, h3⟩, h4⟩ := h
  refine ⟨?_, h1, h4⟩
  have e1 : ((sortF L mm).extract 0 (dF L mm).size) = sortF L mm := by
    rw [← h1]
    exact Array.extract_size
  have e2 : ((dF L mm).extract 0 (dF L mm).size) = dF L mm := Array.extract_size
  unfold sortF at e1 ⊢
  rw [e1, e2] at h3
  exact h3
theorem ord_perm (L : List Pt) : (ordL L).Perm (ixL L L.length) := by
  unfold ordL
  split
  · next h => rw [h]; exact List.Perm.refl _
  · next mm h =>
    rw [h, ← dF_val]
    exact (sortF_is L mm).1.map _
theorem ord_sorted (L : List Pt) : (ordL L).Pairwise (fun i j => (L.getD i noP).at' ≤ (L.getD j noP).at') := by
  unfold ordL
  split
  · exact List.Pairwise.nil
  · next mm h =>
    obtain ⟨_, h2, h3⟩ := sortF_is L mm
    rw [List.pairwise_map, List.pairwise_iff_getElem]
    intro i j hi hj hij
    have hi' : i < (sortF L mm).size := by simpa using hi
    have hj' : j < (sortF L mm).size := by simpa using hj
    have := h3 i j (Nat.zero_le _) hij (by omega)
    rw [lt_cf, getElem!_pos _ j hj', getElem!_pos _ i hi'] at this
    have h4 := decide_eq_false_iff_not.1 this
    unfold atF at h4
    simp only [Array.getElem_toList]
    omega
theorem sortw_grown {mm : Nat} {w : World} {g n : Nat} {os : Array Obj} (d : Array (Fin (mm + 1))) : w.grownBy (sortWorld (encF mm) w g 0 n d os) (some g) := by
  refine ⟨rfl, rfl, rfl, by simp [sortWorld], fun k hk hne => ?_⟩
  unfold sortWorld
  rw [heap_grow_old _ _ (by simpa using hk)]
  have : g ≠ k := fun e => hne (by rw [e])
  simp [putRow, mapBlock, Sort.ahead, Array.getElem?_modify, this]
theorem sortw_heap {mm : Nat} {w : World} {g n : Nat} {os : Array Obj} {cur : Array Value} {e : TypeId} {fr : Nat × Nat} (d : Array (Fin (mm + 1))) (hb : w.heap[g]? = some (.cells cur e fr)) :
    (sortWorld (encF mm) w g 0 n d os).heap[g]? = some (.cells (putCells (encF mm) 0 d cur) e fr) := by
  have hg : g < w.heap.size := (Array.getElem?_eq_some_iff.1 hb).1
  unfold sortWorld
  rw [heap_grow_old _ _ (by simpa using hg)]
  simp [putRow, mapBlock, Sort.ahead, Array.getElem?_modify, hb, onCells]
theorem take_put {mm : Nat} (cur : Array Value) (d : Array (Fin (mm + 1))) (h : d.size ≤ cur.size) : (putCells (encF mm) 0 d cur).toList.take d.size = d.toList.map (encF mm) := by
  apply List.ext_getElem?
  intro j
  by_cases hj : j < d.size
  · rw [List.getElem?_take_of_lt hj, Array.getElem?_toList]
    simp [putCells, hj, show j < cur.size by omega]
  · rw [List.getElem?_take_eq_none (by omega), List.getElem?_eq_none (by simp; omega)]
theorem enc_iy {mm : Nat} (l : List (Fin (mm + 1))) : l.map (encF mm) = Iy ((l.map (·.val)).map (fun k : Nat => (k : Int))) := by
  unfold Iy encF
  simp [List.map_map, Function.comp]
theorem SortF_ones (mm : Nat) : OneCell (encF mm) := fun _ => rfl
end Go.Proofs.Ytjljklfahmjngaa
