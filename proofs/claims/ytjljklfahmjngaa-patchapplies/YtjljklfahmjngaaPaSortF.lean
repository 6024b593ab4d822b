/-
  slices.SortFunc over the numbers of changes.
-/
import Derived.Test.YtjljklfahmjngaaPaSortK2
namespace Go.Proofs.Ytjljklfahmjngaa
open Go Go.Proofs Go.RowKit Go.Shelf Go.Lib Go.Sort
attribute [local go_sem] Oper.semAt_some
def natI (l : List Nat) : List Int := l.map (fun k : Nat => (k : Int))
theorem ord_len (L : List Pt) : (ordL L).length = (ixL L L.length).length := (ord_perm L).length_eq
set_option maxRecDepth 100000 in
theorem sortf_some (W : World) (bl : Nat) (ao : Option Addr) (mm c : Nat) (L : List Pt) (hb : W.cell? ⟨bl, 0, none⟩ = some (.slice ao (mm + 1) c)) (hbl : bl < W.heap.size) (hpc : PcAt W ao (mm + 1) L) (hmx : mm < 1000000) (base go n cap : Nat) (hn : n = (ixL L (mm + 1)).length) (hrow : W.ownsRow base 3 1 (.slice (some ⟨go, 0, none⟩) n cap) n (Iy (natI (ixL L (mm + 1))))) (h1 : go ≠ bl) (h2 : ∀ a, ao = some a → a.block ≠ go) :
    Calls Try.prog 34 #[.slice (some ⟨go, 0, none⟩) n cap, .func (.func 35) #[] #[.pointer (some ⟨bl, 0, none⟩)]] W fun e w' => e = .returned (.tuple #[]) ∧ W.grownBy w' (some go) ∧ w'.ownsRow base 3 1 (.slice (some ⟨go, 0, none⟩) n cap) n (Iy (natI (ordL L))) := by
  have hL : L.length = mm + 1 := hpc.1
  have hord : ordL L = (sortF L mm).toList.map (·.val) := by unfold ordL; rw [hL]
  have hds : (dF L mm).size = n := by
    have := congrArg List.length (dF_val L mm)
    simp at this
    rw [hn, ← this]
  rcases hrow.2 with ⟨e, -⟩ | ⟨g', cap', cur, e, hg, hh, hnc, hm, hsz, ht⟩
  · cases e
  cases e
  have hcd : cur.toList.take n = (dF L mm).toList.map (encF mm) := by
    rw [Nat.mul_one] at ht
    rw [ht, enc_iy, dF_val]
    rfl
  have hgl := lt_of_block hh
  have hH : Holds (encF mm) W go 0 (dF L mm) := fun j hj => by
    rw [Nat.zero_add]
    refine ⟨?_, blk_free hh j⟩
    rw [blk_cell hh]
    have e1 : (cur.toList.take n)[j]? = cur[j]? := by
      rw [List.getElem?_take_of_lt (by omega), Array.getElem?_toList]
    rw [← e1, hcd, List.getElem?_map, Array.getElem?_toList, getElem!_pos _ j hj, Array.getElem?_eq_getElem hj]
    rfl
  have eg : ∀ args w, (callFunc 35 args).run Try.prog w = .ok (.enter 35 args) w := enters_of Try.func35 (by kernel_rfl) rfl
  have hcmp : CmpReads Try.prog 35 #[.pointer (some ⟨bl, 0, none⟩)] (encF mm) (cfF L mm) go 0 (dF L mm).size W := fun k os dk hdk x y => by
    have hc : ∀ a : Addr, a.block ≠ go → a.block < W.heap.size → (sortWorld (encF mm) W go 0 k dk os).cell? a = W.cell? a := fun a q1 q2 => World.cell?_of_block (w := W) ((sortw_grown dk).block a.block q2 (fun e => q1 (by cases e; rfl)))
    have hpc2 : PcAt (sortWorld (encF mm) W go 0 k dk os) ao (mm + 1) L := by
      refine ⟨hpc.1, fun h0 => ?_⟩
      obtain ⟨a, ea, hl, hcs⟩ := hpc.2 h0
      have hs : W.heap.size ≤ (sortWorld (encF mm) W go 0 k dk os).heap.size := (sortw_grown dk).size
      refine ⟨a, ea, Nat.lt_of_lt_of_le hl hs, fun i hi => ?_⟩
      rw [hc _ (by rw [add_block]; exact h2 a ea) (by rw [add_block]; exact hl), hc _ (by rw [add_block]; exact h2 a ea) (by rw [add_block]; exact hl), hc _ (by rw [add_block]; exact h2 a ea) (by rw [add_block]; exact hl)]
      exact hcs i hi
    exact cmp_cl _ bl ao (mm + 1) c L ((hc ⟨bl, 0, none⟩ (fun e => h1 e.symm) hbl).trans hb) hpc2 x.val y.val x.isLt y.isLt
  have hcon := Any.slices_SortFunc_eq sortFA (encF mm) (SortF_ones mm) (cfF L mm) (swo_cf L mm) 35 #[.pointer (some ⟨bl, 0, none⟩)] go 0 cap (dF L mm) W eg hcmp.lays hH hgl (by rw [hds]; have := ix_len L (mm + 1); omega)
  change Calls Try.prog 34 _ _ _ at hcon
  rw [hds] at hcon
  refine hcon.mono ?_
  rintro e w' ⟨rfl, q, os, rfl⟩
  have hss : (sortF L mm).size = n := (sortF_is L mm).2.1.trans hds
  have hse : pdq (ltOf (cfF L mm)) (dF L mm) 0 n (Lib.bitLen n) true true = sortF L mm := by unfold sortF; rw [hds]
  rw [hse]
  refine ⟨rfl, sortw_grown _, ?_, .inr ⟨go, cap, _, rfl, hg, sortw_heap _ hh, hnc, hm, by simp [putCells, hsz], ?_⟩⟩
  · rw [hord]
    simp [Iy, natI, hss]
  · rw [Nat.mul_one, ← hss, take_put cur _ (by rw [hss]; omega), enc_iy, hord]
    rfl
set_option maxRecDepth 100000 in
set_option maxHeartbeats 1000000 in
theorem ins_none (W : World) (u v : Value) :
    Calls Try.prog 44 #[u, .int .i64 0, .int .i64 0, v] W fun e w' => e = .returned (.tuple #[]) ∧ w' = W := by
  go_enter Try.func44, Try.ntmps44
  go_wp2
  refine wp_loop_rounds 1 ?_
  rw [rounds_succ]
  go_wp2
  go_end0
  exact ⟨rfl, rfl⟩
set_option maxRecDepth 100000 in
set_option maxHeartbeats 1000000 in
theorem pdq_none (W : World) (u v : Value) (k : Int) :
    Calls Try.prog 40 #[u, .int .i64 0, .int .i64 0, .int .i64 k, v] W fun e w' => e = .returned (.tuple #[]) ∧ w' = W := by
  have HIN := Hid.mk (ins_none W u v)
  go_enter Try.func40, Try.ntmps40
  go_wp2
  refine wp_loop_rounds 1 ?_
  rw [rounds_succ]
  go_wp2_with (first
    | (go_at_call 44; refine HIN.out.mono ?_; rintro e w1 ⟨rfl, hw1⟩; have hw1' := hw1.symm; clear hw1; subst hw1')
    | go_in)
  refine bodyPost_ret (results_none rfl _ _ _) rfl ?_
  exact ⟨rfl, rfl⟩
set_option maxRecDepth 100000 in
set_option maxHeartbeats 1000000 in
theorem sortf_none (W : World) (go cap : Nat) (v : Value) :
    Calls Try.prog 34 #[.slice (some ⟨go, 0, none⟩) 0 cap, v] W fun e w' => e = .returned (.tuple #[]) ∧ w' = W := by
  have HB : Hid (Calls Try.prog 41 #[.int .u64 0] W fun e w' => ∃ k : Int, e = .returned (.int .i64 k) ∧ w' = W) := Hid.mk ((Any.bits_Len (SlLaysF0.n15.bits (P := Try.prog) (ρ := sortFA_ren) { sortFA with }) 0 W (by omega) (by omega)).mono (fun e w' h => ⟨_, h.1, h.2⟩))
  go_enter Try.func34, Try.ntmps34
  go_wp2_with (go_at_call 41; refine HB.out.mono ?_; rintro e w1 ⟨k, rfl, hw1⟩; have hw1' := hw1.symm; clear hw1 HB; subst hw1'; have HP := Hid.mk (pdq_none W (.slice (some ⟨go, 0, none⟩) 0 cap) v k))
  go_wp2_with (go_at_call 40; refine HP.out.mono ?_; rintro e w2 ⟨rfl, hw2⟩; have hw2' := hw2.symm; clear hw2 HP; subst hw2')
  go_end0
  exact ⟨rfl, rfl⟩
end Go.Proofs.Ytjljklfahmjngaa
