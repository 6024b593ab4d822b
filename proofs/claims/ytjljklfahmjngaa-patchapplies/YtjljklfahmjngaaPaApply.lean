/-
  A row of bytes with changes made in it: Apply.
-/
import Derived.Test.YtjljklfahmjngaaPaLay
import Derived.Test.YtjljklfahmjngaaPaWithout
namespace Go.Proofs.Ytjljklfahmjngaa
open Go Go.Proofs Go.RowKit Go.Shelf
attribute [local go_sem] Oper.semAt_some
/-- The changes made one behind the other. -/
def applyL (bs : List Int) (M : List Pt) : List Int := M.foldl (fun b p => layL b p.at' p.xs) bs
theorem applyL_snoc (bs : List Int) (M : List Pt) (p : Pt) : applyL bs (M ++ [p]) = layL (applyL bs M) p.at' p.xs := by
  unfold applyL
  rw [List.foldl_append]
  rfl
theorem applyL_length (bs : List Int) (M : List Pt) : (applyL bs M).length = bs.length := by
  unfold applyL
  induction M generalizing bs with
  | nil => rfl
  | cons p M ih => rw [List.foldl_cons, ih, layL_length]
structure ApI (w wc : World) (v : Value) (n : Nat) (bs : List Int) (M : List Pt) (ao : Option Addr) (m c : Nat) (oo : Option Addr) (om oc : Nat) (k : Nat) (W : World) : Prop where
  below : Below w.heap.size w W
  size : wc.heap.size + 3 ≤ W.heap.size
  var : W.heap[wc.heap.size]? = some (.cells #[v] 22 (0, 0))
  b0 : W.heap[wc.heap.size + 1]? = some (.cells #[.slice ao m c] 23 (0, 0))
  b1 : W.heap[wc.heap.size + 2]? = some (.cells #[.slice oo om oc] 24 (0, 0))
  row : W.ownsRow w.heap.size 5 1 v n (By (applyL bs (M.take k)))
  low : ∀ j, v.ownBlock = some j → w.heap.size ≤ j ∧ j < wc.heap.size
theorem ApI.same {w wc : World} {v : Value} {n : Nat} {bs : List Int} {M : List Pt} {ao : Option Addr} {m c : Nat} {oo : Option Addr} {om oc : Nat} {k : Nat} {W W' : World} (h : ApI w wc v n bs M ao m c oo om oc k W) (hw : w.heap.size ≤ wc.heap.size) {row : Option Nat} (hg : W.grownBy W' row) (hr : ∀ r, row = some r → wc.heap.size + 3 ≤ r) : ApI w wc v n bs M ao m c oo om oc k W' := by
  have hk : ∀ j, j < wc.heap.size + 3 → W'.heap[j]? = W.heap[j]? := fun j hj => hg.block j (by have := h.size; omega) (fun e => by have := hr j e.symm; omega)
  exact ⟨⟨hg.os.trans h.below.os, hg.tape.trans h.below.tape, hg.output.trans h.below.output, Nat.le_trans h.below.size hg.size, fun j hj => (hk j (by omega)).trans (h.below.block j hj)⟩, Nat.le_trans h.size hg.size, (hk _ (by omega)).trans h.var, (hk _ (by omega)).trans h.b0, (hk _ (by omega)).trans h.b1, owns_at h.row (fun j hj => hk j (by have := h.low j hj; omega)), h.low⟩
set_option maxRecDepth 100000 in
set_option maxHeartbeats 4000000 in
theorem apply_any (w : World) (xo : Option Addr) (n xc : Nat) (bs : List Int) (hx : BAt w xo n bs) (hxn : xo = none → n = 0 ∧ xc = 0) (hn : n ≤ 1000000) (ao : Option Addr) (m c : Nat) (L : List Pt) (hpc : PcAt w ao m L) (hpn : PnAt w L) (hm : m ≤ 1000000) (oo : Option Addr) (om oc : Nat) (outs : List Int) (hlo : LAt w oo om outs) (hom : om ≤ 1000000) (hio : ∀ x ∈ outs, I64 x) :
    Calls Try.prog 11 #[.slice xo n xc, .slice ao m c, .slice oo om oc] w fun e w' => ∃ v, e = .returned v ∧ w'.ownsRow w.heap.size 5 1 v n (By (applyL bs (keptL L outs))) ∧ Below w.heap.size w w' := by
  have HPC := Hid.mk hpc
  have HPN := Hid.mk hpn
  have HLO := Hid.mk hlo
  have HIO := Hid.mk hio
  have HM : Hid (n ≤ 1000000 ∧ m ≤ 1000000 ∧ om ≤ 1000000) := Hid.mk ⟨hn, hm, hom⟩
  have HCL : Hid (Calls Try.prog 21 #[.slice xo n xc] w fun e w' => ∃ vo vc, e = .returned (.slice vo n vc) ∧ Hid (w'.ownsRow w.heap.size 5 1 (.slice vo n vc) n (By bs)) ∧ Hid (Below w.heap.size w w')) := Hid.mk ((clone_all w xo n xc bs hx hxn (by omega)).mono (by
    rintro e w' ⟨v, rfl, h1, h2⟩
    obtain ⟨vo, vc, rfl, -⟩ := owns_BAt h1
    exact ⟨vo, vc, rfl, Hid.mk h1, Hid.mk h2⟩))
  obtain ⟨M, hM⟩ : ∃ M, M = keptL L outs := ⟨_, rfl⟩
  have HMk := Hid.mk hM
  rw [← hM]
  clear hx hxn hn hpc hpn hm hlo hom hio hM
  refine (callsIn_wide (n := 6)).1 ?_
  refine callsIn_of_wp_marks Try.func11 rfl trivial ?_ rfl
  simp only [Try.ntmps11, List.size_toArray, List.length_cons, List.length_nil, Nat.reduceAdd, Nat.reduceSub, Array.replicate_succ, Array.replicate_zero, List.push_toArray, List.append_toArray, List.nil_append, List.cons_append]
  gi_wp2_with (first
    | (refine ⟨trivial, ?_⟩; gi_at_call 21; refine (callsIn_wide.2 HCL.out).mono ?_; rintro e wc ⟨vo, vc, rfl, HOWN, HBC⟩; clear HCL)
    | (refine ⟨trivial, ?_⟩; gi_at_call 22; refine (callsIn_wide.2 (without_any _ ao m c oo om oc)).mono ?_; rintro e w5 ⟨rfl, hw5⟩; have HW5 := Hid.mk hw5; clear hw5))
  obtain ⟨W6, hW6⟩ : ∃ W6, W6 = wc.alloc (.cells #[.slice vo n vc] 22) := ⟨_, rfl⟩
  have h5 : w5 = (W6.alloc (.cells #[.slice ao m c] 23)).alloc (.cells #[.slice oo om oc] 24) := by rw [hW6]; exact HW5.out
  have hs6 : W6.heap.size = wc.heap.size + 1 := by rw [hW6]; simp
  have hs5 : w5.heap.size = wc.heap.size + 3 := by rw [h5]; simp [hs6]
  have hwc := HBC.out.size
  have hI0 : ApI w wc (.slice vo n vc) n bs M ao m c oo om oc 0 w5 := by
    have hB6 : Below wc.heap.size wc W6 := by rw [hW6]; exact (Below.refl _ wc).alloc (Nat.le_refl _) _
    have hB5 : Below W6.heap.size W6 w5 := by rw [h5]; exact ((Below.refl _ _).alloc (Nat.le_refl _) _).alloc (by simp) _
    have hB : Below wc.heap.size wc w5 := hB6.trans (hB5.mono hB6.size)
    refine ⟨HBC.out.trans (hB.mono hwc), by omega, ?_, ?_, ?_, ?_, fun j hj => HOWN.out.lt j hj⟩
    · rw [hB5.block _ (by omega), hW6]
      exact blk_new wc _
    · rw [h5, Below.heap_alloc _ _ _ (by simp; omega), ← hs6]
      exact blk_new W6 _
    · rw [h5]
      have := blk_new (W6.alloc (.cells #[.slice ao m c] 23)) (.cells #[.slice oo om oc] 24)
      rw [World.size_alloc, hs6] at this
      exact this
    · exact owns_at HOWN.out (fun j hj => hB.block j (HOWN.out.lt j hj).2)
  have HI0 := Hid.mk hI0
  have HS5 : Hid (w5.heap.size = wc.heap.size + 3 ∧ w.heap.size ≤ wc.heap.size) := Hid.mk ⟨hs5, hwc⟩
  clear hI0 hs5 hs6 h5 hW6 HW5 HOWN HBC hwc
  refine wpIn_range_keep (gf := 31) (lb := #[.pointer (some ⟨wc.heap.size + 1 + 1, 0, none⟩), .pointer (some ⟨wc.heap.size + 1, 0, none⟩)]) rfl (enters_of Try.func31 (by kernel_rfl) rfl) M.length (ptVs M) (fun _ => rfl)
    (fun j => (Value.slice vo n vc).ownBlock = some j) (ApI w wc (.slice vo n vc) n bs M ao m c oo om oc) (fun _ => False)
    (fun k A B row hA hg hr => hA.same HS5.out.2 hg (fun r e => by have := hr r e; have := HS5.out; omega)) (fun A B row hA _ _ => hA) HI0.out ?hit
    (fun k W => { tmps := #[.slice xo n xc, .slice ao m c, .slice oo om oc, undef, undef, undef, .slice none 0 0, .pointer (some ⟨wc.heap.size, 0, none⟩), .pointer (some ⟨W.heap.size, 0, none⟩), .slice xo n xc, .slice vo n vc, .slice ao m c, .slice oo om oc, withoutV (wc.heap.size + 1), paV (M.getD k noP).id (M.getD k noP).at' (M.getD k noP).val, undef, undef, undef, undef], defers := [] }) (fun k W => W.alloc (.cells #[.int .i64 (M.getD k noP).id, .int .i64 (M.getD k noP).at', (M.getD k noP).val] 31)) (fun k W => grown_of_below ((Below.refl _ W).alloc (Nat.le_refl _) _)) ?assign ?body ?done ?stop
  case hit =>
    intro l J Jx W hJI hJs hg hsz hY h0
    have hs5 := HS5.out
    have hM := HMk.out
    rw [hM] at hY ⊢
    have hA0 := hJI 0 W h0
    refine without1_in 5 (by omega) l (wc.heap.size + 1) (w5.heap.size + 1) ao m c L oo om oc outs HM.out.2.1 HM.out.2.2 (fun p hp => (HPN.out p hp).2.2.1) HIO.out (fun j => (Value.slice vo n vc).ownBlock = some j) J Jx W (by omega) (fun j hj => by have := hA0.low j hj; have := hA0.size; omega) hJs ?_ hY h0
    intro k A hJ
    have hA := hJI k A hJ
    exact ⟨by rw [blk_cell hA.b1]; rfl, by rw [blk_cell hA.b0]; rfl, HLO.out.below hA.below, HPC.out.below hA.below⟩
  case assign =>
    intro l k W K hK
    unfold ptVs
    generalize M.getD k noP = p at *
    unfold paV Pt.val at *
    gi_wp2
    exact hK
  case body =>
    rintro l k W W2 hA hk hW hg hs2
    have hs5 := HS5.out
    have hkM : M.getD k noP ∈ M := by rw [List.getD_eq_getElem?_getD, List.getElem?_eq_getElem hk]; exact List.getElem_mem hk
    have htk : M.take (k + 1) = M.take k ++ [M.getD k noP] := takeP_snoc M k hk
    obtain ⟨p, hp⟩ : ∃ p, p = M.getD k noP := ⟨_, rfl⟩
    rw [← hp] at hkM htk hg hs2 ⊢
    have hpL : p ∈ L := by
      rw [HMk.out] at hkM
      exact (List.mem_filter.1 hkM).1
    have hsa : (W.alloc (.cells #[.int .i64 p.id, .int .i64 p.at', p.val] 31)).heap.size = W.heap.size + 1 := by simp
    have hgW : W.grownBy W2 (some (w5.heap.size + 1)) := by
      refine ⟨hg.os, hg.tape, hg.output, by omega, fun j hj hne => (hg.block j (by omega) hne).trans (Below.heap_alloc _ _ _ hj)⟩
    have hA2 : ApI w wc (.slice vo n vc) n bs M ao m c oo om oc k W2 := hA.same hs5.2 hgW (fun r e => by cases e; omega)
    have hnew : W2.heap[W.heap.size]? = some (.cells #[.int .i64 p.id, .int .i64 p.at', p.val] 31 (0, 0)) := (hg.block _ (by omega) (fun e => by have := Option.some.inj e; omega)).trans (blk_new W _)
    obtain ⟨q1, q2, q3, q4, q5, q6⟩ := HPN.out p hpL
    have HLAY : Hid (Calls Try.prog 23 #[.slice vo n vc, .agg #[.int .i64 p.id, .int .i64 p.at', .slice p.ao p.n p.c]] W2 fun e W' => (∃ u, e = .returned u) ∧ Hid (W'.heap[w5.heap.size]? = W2.heap[w5.heap.size]? ∧ W'.heap[w5.heap.size + 1]? = W2.heap[w5.heap.size + 1]? ∧ (∀ j, j < W.heap.size → ¬ (Value.slice vo n vc).ownBlock = some j → W'.heap[j]? = W2.heap[j]?) ∧ W2.heap.size ≤ W'.heap.size ∧ ApI w wc (.slice vo n vc) n bs M ao m c oo om oc (k + 1) W')) := Hid.mk ((lay_any W2 w.heap.size (.slice vo n vc) n _ hA2.row (by have := HM.out; omega) p.id p.at' q4 p.ao p.n p.c p.xs (q1.below hA2.below) q2 q6).mono (by
      rintro e W' ⟨rfl, h1, h2⟩
      have kp : ∀ j, j < W2.heap.size → ¬ (Value.slice vo n vc).ownBlock = some j → W'.heap[j]? = W2.heap[j]? := fun j hj hn => h2.block j hj hn
      have hi : ∀ j, wc.heap.size ≤ j → ¬ (Value.slice vo n vc).ownBlock = some j := fun j hj e => by have := hA2.low j e; omega
      have lo : ∀ j, j < w.heap.size → ¬ (Value.slice vo n vc).ownBlock = some j := fun j hj e => by have := hA2.low j e; omega
      have z1 := hA2.size
      refine ⟨⟨_, rfl⟩, Hid.mk ⟨kp _ (by omega) (hi _ (by omega)), kp _ (by omega) (hi _ (by omega)), fun j hj hn => kp j (by omega) hn, h2.size, ?_⟩⟩
      have hb := hA2.below
      refine ⟨⟨h2.os.trans hb.os, h2.tape.trans hb.tape, h2.output.trans hb.output, Nat.le_trans hb.size h2.size, fun j hj => (kp j (by omega) (lo j hj)).trans (hb.block j hj)⟩, Nat.le_trans z1 h2.size, (kp _ (by omega) (hi _ (by omega))).trans hA2.var, (kp _ (by omega) (hi _ (by omega))).trans hA2.b0, (kp _ (by omega) (hi _ (by omega))).trans hA2.b1, ?_, hA2.low⟩
      rw [htk, applyL_snoc]
      exact h1))
    have m0 : W2.cell? ⟨wc.heap.size, 0, none⟩ = some (.slice vo n vc) := by rw [blk_cell hA2.var]; rfl
    have m1 : W2.cell? ⟨W.heap.size, 0, none⟩ = some (.int .i64 p.id) := by rw [blk_cell hnew]; rfl
    have m2 : W2.cell? ⟨W.heap.size, 1, none⟩ = some (.int .i64 p.at') := by rw [blk_cell hnew]; rfl
    have m3 : W2.cell? ⟨W.heap.size, 2, none⟩ = some (.slice p.ao p.n p.c) := by rw [blk_cell hnew]; rfl
    clear hA hA2 hg hgW hnew hs2 hsa htk hkM hpL hp q1 q2 q3 q4 q5 q6 hs5 HPC HPN HLO HIO HI0 HMk
    gi_wp2_with (first
      | (refine ⟨trivial, ?_⟩; gi_at_call 23; refine (callsIn_round HLAY.out).mono ?_; rintro e W9 ⟨⟨u, rfl⟩, H9⟩; clear HLAY))
    exact H9.out
  case done =>
    rintro D9 W9 hD9 hA hKD
    subst hD9
    have hs5 := HS5.out
    have hgp := grownBy_putObj' W9 w5.heap.size (.deferred none)
    have hA9 := hA.same hs5.2 hgp (fun r e => by have := Option.some.inj e; omega)
    have hrow := hA9.row
    rw [List.take_length] at hrow
    have HFIN : Hid ((W9.putObj w5.heap.size (.deferred none)).ownsRow w.heap.size 5 1 (.slice vo n vc) n (By (applyL bs M)) ∧ Below w.heap.size w (W9.putObj w5.heap.size (.deferred none))) := Hid.mk ⟨hrow, hA9.below⟩
    have m1 : W9.cell? ⟨wc.heap.size, 0, none⟩ = some (.slice vo n vc) := by rw [blk_cell hA.var]; rfl
    have HKD := Hid.mk hKD
    clear hA hA9 hrow hgp hs5 hKD HPC HPN HLO HIO HI0 HMk
    gi_wp2
    refine ⟨by simp, .inl ⟨_, _, rfl, run_takeDeferred HKD.out, ?_⟩⟩
    refine ⟨_, results_tmp rfl _ _ _, ?_⟩
    exact ⟨_, rfl, HFIN.out⟩
  case stop =>
    rintro D9 W9 _ hX
    exact hX.elim
end Go.Proofs.Ytjljklfahmjngaa
