/-
  The changes that are not left out, one behind the other: without.
-/
import Derived.Test.YtjljklfahmjngaaPaIn
import Derived.Test.YtjljklfahmjngaaPaRange2
import Derived.LoopIn
import Derived.BigRegionIn
import Derived.BigFrameIn
namespace Go.Proofs.Ytjljklfahmjngaa
open Go Go.Proofs Go.RowKit Go.Shelf
attribute [local go_sem] Oper.semAt_some
/-- Those that are not left out. -/
def keptL (L : List Pt) (outs : List Int) : List Pt := L.filter (fun p => !decide (p.id ∈ outs))
def withoutV (B : Nat) : Value := .func (.func 31) #[] #[.pointer (some ⟨B + 1, 0, none⟩), .pointer (some ⟨B, 0, none⟩)]
set_option maxRecDepth 100000 in
theorem without_any (w : World) (ao : Option Addr) (m c : Nat) (oo : Option Addr) (om oc : Nat) : Calls Try.prog 22 #[.slice ao m c, .slice oo om oc] w fun e w' => e = .returned (withoutV w.heap.size) ∧ w' = (w.alloc (.cells #[.slice ao m c] 23)).alloc (.cells #[.slice oo om oc] 24) := by
  go_enter Try.func22, Try.ntmps22
  go_wp2
  go_ret
  exact ⟨rfl, rfl⟩
theorem takeP_snoc (L : List Pt) (k : Nat) (h : k < L.length) : L.take (k + 1) = L.take k ++ [L.getD k noP] := by
  rw [List.take_succ_eq_append_getElem h]
  simp [List.getD, List.getElem?_eq_getElem h]
theorem getP_mem {L : List Pt} {k : Nat} (h : k < L.length) : L.getD k noP ∈ L := by
  rw [List.getD_eq_getElem?_getD, List.getElem?_eq_getElem h]
  exact List.getElem_mem h
theorem kept_no {L : List Pt} {outs : List Int} {k : Nat} (h : k < L.length) (hi : (L.getD k noP).id ∈ outs) : keptL (L.take (k + 1)) outs = keptL (L.take k) outs := by
  rw [takeP_snoc L k h]
  unfold keptL
  have e : (!decide ((L.getD k noP).id ∈ outs)) = false := by rw [decide_eq_true hi]; rfl
  rw [List.filter_append, List.filter_cons, e, if_neg (by simp), List.filter_nil, List.append_nil]
theorem kept_yes {L : List Pt} {outs : List Int} {k : Nat} (h : k < L.length) (hi : (L.getD k noP).id ∉ outs) : keptL (L.take (k + 1)) outs = keptL (L.take k) outs ++ [L.getD k noP] := by
  rw [takeP_snoc L k h]
  unfold keptL
  have e : (!decide ((L.getD k noP).id ∈ outs)) = true := by rw [decide_eq_false hi]; rfl
  rw [List.filter_append, List.filter_cons, e, if_pos rfl, List.filter_nil]
theorem kept_at {L : List Pt} {outs : List Int} {k : Nat} (h : k < L.length) (hi : (L.getD k noP).id ∉ outs) : (keptL L outs).getD (keptL (L.take k) outs).length noP = L.getD k noP ∧ (keptL (L.take k) outs).length < (keptL L outs).length := by
  have e : keptL L outs = keptL (L.take (k + 1)) outs ++ keptL (L.drop (k + 1)) outs := by
    unfold keptL
    rw [← List.filter_append, List.take_append_drop]
  rw [e, kept_yes h hi, List.append_assoc]
  constructor
  · rw [List.getD_eq_getElem?_getD, List.getElem?_append_right (Nat.le_refl _)]
    simp
  · simp
def ptVs (M : List Pt) (k : Nat) : Array Value := #[paV (M.getD k noP).id (M.getD k noP).at' (M.getD k noP).val]
theorem PcAt.load {W : World} {ao : Option Addr} {n : Nat} {L : List Pt} (h : PcAt W ao n L) (k : Nat) (hk : k < n) : ∃ a, ao = some a ∧ W.cell? (a.add (k * 3)) = some (.int .i64 (L.getD k noP).id) ∧ W.cell? ⟨(a.add (k * 3)).block, (a.add (k * 3)).off + 1, none⟩ = some (.int .i64 (L.getD k noP).at') ∧ W.cell? ⟨(a.add (k * 3)).block, (a.add (k * 3)).off + 2, none⟩ = some (.slice (L.getD k noP).ao (L.getD k noP).n (L.getD k noP).c) := by
  obtain ⟨a, e, hlt, hc⟩ := h.2 (by omega)
  obtain ⟨h1, h2, h3⟩ := hc k hk
  rw [← add_add] at h2 h3
  exact ⟨a, e, h1, h2, h3⟩
theorem grown_of_below {A B : World} (h : Below A.heap.size A B) : A.grownBy B none := ⟨h.os, h.tape, h.output, h.size, fun j hj _ => h.block j hj⟩
structure WoI (W0 : World) (L : List Pt) (outs : List Int) (J : Nat → World → Prop) (q : Nat) (W : World) : Prop where
  le : q ≤ L.length
  j : J (keptL (L.take q) outs).length W
  var : W.heap[W0.heap.size + 1]? = some (.cells #[.map (some W0.heap.size)] 63 (0, 0))
  mem : InAt W W0.heap.size outs
  size : W0.heap.size + 2 ≤ W.heap.size
theorem WoI.grow {W0 : World} {L : List Pt} {outs : List Int} {J : Nat → World → Prop} (hJ : ∀ k A B, J k A → A.grownBy B none → J k B) {q : Nat} {W W' : World} (h : WoI W0 L outs J q W) (hB : Below W.heap.size W W') : WoI W0 L outs J q W' := by
  have hs := h.size
  exact ⟨h.le, hJ _ _ _ h.j (grown_of_below hB), (hB.block _ (by omega)).trans h.var, h.mem.kept (hB.block _ (by omega)), Nat.le_trans hs hB.size⟩
set_option maxRecDepth 100000 in
set_option maxHeartbeats 4000000 in
theorem without1_in (n : Nat) (hn : 1 ≤ n) (l B D1 : Nat) (ao : Option Addr) (m c : Nat) (L : List Pt) (oo : Option Addr) (om oc : Nat) (outs : List Int) (hm : m ≤ 1000000) (hom : om ≤ 1000000) (hid : ∀ p ∈ L, I64 p.id) (hio : ∀ x ∈ outs, I64 x) (F : Nat → Prop) (J : Nat → World → Prop) (Jx : World → Prop) (W : World)
    (hD : D1 < W.heap.size) (hF : ∀ j, F j → j < W.heap.size)
    (hJ : ∀ k A B, J k A → A.grownBy B none → J k B)
    (hc : ∀ k A, J k A → A.cell? ⟨B + 1, 0, none⟩ = some (.slice oo om oc) ∧ A.cell? ⟨B, 0, none⟩ = some (.slice ao m c) ∧ LAt A oo om outs ∧ PcAt A ao m L)
    (hY : ∀ k A, J k A → k < (keptL L outs).length → YieldAt Fence.wide (n - 1) Try.prog l (ptVs (keptL L outs) k) A fun e W' => (∀ j, j < A.heap.size → ¬ F j → j ≠ D1 → W'.heap[j]? = A.heap[j]?) ∧ A.heap.size ≤ W'.heap.size ∧ ((e = .returned (.bool true) ∧ J (k + 1) W') ∨ (e = .returned (.bool false) ∧ Jx W'))) (h0 : J 0 W) :
    CallsIn Fence.wide n Try.prog 31 #[.func (.yield l) #[] #[], .pointer (some ⟨B + 1, 0, none⟩), .pointer (some ⟨B, 0, none⟩)] W fun e W' => (∃ v, e = .returned v) ∧ (J (keptL L outs).length W' ∨ Jx W') := by
  obtain ⟨c1, c2, hlo, hpc⟩ := hc 0 W h0
  have hLm : L.length = m := hpc.1
  have HC := Hid.mk hc
  have HY := Hid.mk hY
  have HJ := Hid.mk hJ
  have HM := Hid.mk hm
  have HDF := Hid.mk (And.intro hD hF)
  have HID := Hid.mk hid
  have HLM := Hid.mk hLm
  have HAM : Hid (CallsIn Fence.wide (n - 1) Try.prog 24 #[.slice oo om oc] W fun e w' => e = .returned (amongV (W.heap.size + 1)) ∧ w'.cell? ⟨B, 0, none⟩ = some (.slice ao m c) ∧ Hid (WoI W L outs J 0 w')) := Hid.mk ((callsIn_wide.2 (among_any W oo om oc outs hlo hom hio)).mono (by
    rintro e w' ⟨rfl, h1, h2, h3⟩
    have hj0 : J 0 w' := hJ _ _ _ h0 (grown_of_below h3)
    exact ⟨rfl, (hc 0 w' hj0).2.1, Hid.mk ⟨Nat.zero_le _, hj0, h1, h2, lt_of_block h1⟩⟩))
  clear hc hY hm hJ hD hF hid hlo hpc c2 hLm hio hom h0
  unfold amongV at HAM
  refine callsIn_of_wp Try.func31 rfl trivial ?_ rfl
  simp only [Try.ntmps31, List.size_toArray, List.length_cons, List.length_nil, Nat.reduceAdd, Nat.reduceSub, Array.replicate_succ, Array.replicate_zero, List.push_toArray, List.append_toArray, List.nil_append, List.cons_append]
  gi_wp2_with (first
    | (refine ⟨trivial, ?_⟩; gi_at_call 24; refine HAM.out.mono ?_; rintro e w1 ⟨rfl, c3, H1⟩; clear HAM))
  gi_loopw [6, 11] (fun _ v wr => ∃ q : Nat, v = .int .i64 q ∧ Hid (WoI W L outs J q wr)) (fun _ v _ => m - (intOf v).toNat)
  case atStart => exact ⟨0, rfl, H1⟩
  case round =>
    obtain ⟨q, rfl, HQ⟩ := hrel
    clear H1 c1 c3
    by_cases hlt : q < m
    · have hlt' : (q : Int) < (m : Int) := by omega
      have u1 : IntKind.i64.wrap ((q : Int) + 1) = ((q + 1 : Nat) : Int) := by have := HM.out; rw [IntKind.wrap_i64]; omega
      obtain ⟨-, -, -, hpc⟩ := HC.out _ wr HQ.out.j
      obtain ⟨a, rfl, x0, x1, x2⟩ := hpc.load q hlt
      have hqL : q < L.length := by have := HLM.out; omega
      have hwid := HID.out _ (getP_mem hqL)
      obtain ⟨p, hp⟩ : ∃ p, p = L.getD q noP := ⟨_, rfl⟩
      rw [← hp] at x0 x1 x2 hwid
      obtain ⟨W2, hW2⟩ : ∃ W2, W2 = wr.alloc (.cells #[.int .i64 p.id, .int .i64 p.at', p.val] 31) := ⟨_, rfl⟩
      have hB2 : Below wr.heap.size wr W2 := by rw [hW2]; exact (Below.refl _ wr).alloc (Nat.le_refl _) _
      have hq2 := HQ.out.grow HJ.out hB2
      have hv : p.val = .slice p.ao p.n p.c := rfl
      have HIN : Hid (CallsIn Fence.wide (n - 1) Try.prog 32 #[.int .i64 p.id, .pointer (some ⟨W.heap.size + 1, 0, none⟩)] W2 fun e W' => e = .returned (.bool (decide (p.id ∈ outs))) ∧ Hid (Below W2.heap.size W2 W')) := Hid.mk ((callsIn_wide.2 (among1_any W2 (W.heap.size + 1) W.heap.size outs (by rw [blk_cell hq2.var]; rfl) hq2.mem p.id hwid)).mono (fun e W' h => ⟨h.1, Hid.mk h.2⟩))
      have HQ2 := Hid.mk hq2
      have HW2 := Hid.mk hW2
      have HLT := Hid.mk hlt
      have HP := Hid.mk hp
      have HQL := Hid.mk hqL
      have HCL : Hid (∀ W3, Below W2.heap.size W2 W3 → W3.cell? ⟨wr.heap.size, 0, none⟩ = some (.int .i64 p.id) ∧ W3.cell? ⟨wr.heap.size, 1, none⟩ = some (.int .i64 p.at') ∧ W3.cell? ⟨wr.heap.size, 2, none⟩ = some (.slice p.ao p.n p.c)) := Hid.mk (fun W3 h3 => by
        have hs : W2.heap.size = wr.heap.size + 1 := by rw [hW2]; simp
        have e : ∀ o, W3.cell? ⟨wr.heap.size, o, none⟩ = W2.cell? ⟨wr.heap.size, o, none⟩ := fun o => h3.cell (p := ⟨wr.heap.size, o, none⟩) (by show wr.heap.size < W2.heap.size; omega)
        rw [e, e, e, hW2, hv]
        simp)
      rw [hv] at HW2
      clear hW2 hB2 hq2 hpc hp hwid HQ hlt HC hqL hv
      by_cases hin : p.id ∈ outs
      · rw [decide_eq_true hin] at HIN
        clear HY
        gi_wp2_with (first
          | (refine ⟨trivial, ?_⟩; gi_at_call 32; rw [← HW2.out]; refine HIN.out.mono ?_; rintro e w3 ⟨rfl, HB3⟩))
        refine ⟨fun _ h => (by cases h), ?_⟩
        gi_wp2
        have hg := HQ2.out.grow HJ.out HB3.out
        refine ⟨⟨q + 1, rfl, Hid.mk ⟨HQL.out, ?_, hg.var, hg.mem, hg.size⟩⟩, ?_⟩
        · rw [kept_no HQL.out (by rw [← HP.out]; exact hin)]
          exact hg.j
        · have := HLT.out
          simp [intOf]
          omega
      · rw [decide_eq_false hin] at HIN
        obtain ⟨e1, e2⟩ := kept_at HQL.out (outs := outs) (by rw [← HP.out]; exact hin)
        rw [← HP.out] at e1
        have HYK : Hid (∀ W3, Below W2.heap.size W2 W3 → YieldAt Fence.wide (n - 1) Try.prog l #[.agg #[.int .i64 p.id, .int .i64 p.at', .slice p.ao p.n p.c]] W3 fun e W' => ∃ b : Bool, e = .returned (.bool b) ∧ Hid ((b = true ∧ WoI W L outs J (q + 1) W') ∨ (b = false ∧ Jx W'))) := Hid.mk (fun W3 h3 => by
          have hg := HQ2.out.grow HJ.out h3
          have h9 := HY.out _ W3 hg.j e2
          unfold ptVs at h9
          rw [e1] at h9
          refine YieldAt.mono h9 (fun e W' h => ?_)
          obtain ⟨hfr, hsz, h⟩ := h
          have hs := hg.size
          obtain ⟨hD, hF⟩ := HDF.out
          rcases h with ⟨rfl, hj⟩ | ⟨rfl, hx⟩
          · refine ⟨true, rfl, Hid.mk (.inl ⟨rfl, HQL.out, ?_, ?_, ?_, ?_⟩)⟩
            · rw [kept_yes HQL.out (by rw [← HP.out]; exact hin), List.length_append]
              exact hj
            · exact (hfr _ (by omega) (fun h => by have := hF _ h; omega) (by omega)).trans hg.var
            · exact hg.mem.kept (hfr _ (by omega) (fun h => by have := hF _ h; omega) (by omega))
            · omega
          · exact ⟨false, rfl, Hid.mk (.inr ⟨rfl, hx⟩)⟩)
        clear HY e1 e2 HDF
        gi_wp2_with (first
          | (refine ⟨trivial, ?_⟩; gi_at_call 32; rw [← HW2.out]; refine HIN.out.mono ?_; rintro e w3 ⟨rfl, HB3⟩; obtain ⟨z0, z1, z2⟩ := HCL.out w3 HB3.out; obtain ⟨fn, tmps, assign, body, hy, hR⟩ := HYK.out w3 HB3.out; have HR := Hid.mk hR; clear hR HYK HCL HIN)
          | (refine HR.out.mono ?_; rintro e W4 ⟨b, rfl, HCC⟩) | (refine ⟨trivial, ?_⟩; refine HR.out.mono ?_; rintro e W4 ⟨b, rfl, HCC⟩))
        · have hb : b = false := by
            rename_i h
            simpa using h
          have hx : Jx W4 := by simpa [Hid, hb] using HCC
          refine bodyPost_ret (results_none rfl _ _ _) rfl ?_
          exact ⟨⟨_, rfl⟩, .inr hx⟩
        · have hb : b = true := by
            rename_i h
            simpa using h
          have hj : WoI W L outs J (q + 1) W4 := by simpa [Hid, hb] using HCC
          refine ⟨⟨q + 1, rfl, Hid.mk hj⟩, ?_⟩
          have := HLT.out
          simp [intOf]
          omega
    · have hqm : q = L.length := by have := HQ.out.le; have := HLM.out; omega
      have HF : Hid (J (keptL L outs).length wr) := Hid.mk (by
        have := HQ.out.j
        rwa [List.take_of_length_le (by omega)] at this)
      have hlt' : ¬ (q : Int) < (m : Int) := by omega
      clear HC HY hqm HQ HDF
      gi_wp2
      go_end0
      exact ⟨⟨_, rfl⟩, .inl HF.out⟩
end Go.Proofs.Ytjljklfahmjngaa
