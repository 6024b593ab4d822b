/-
  walk.Paths.
-/
import Derived.Test.YtbahbhaoimabdaaWkDown
namespace Go.Proofs.Ytbahbhaoimabdaa
open Go Go.Proofs Go.RowKit Go.Shelf
attribute [local go_sem] Oper.semAt_some

set_option maxRecDepth 100000 in
set_option maxHeartbeats 4000000 in
theorem down_any (w : World) (ao : Option Addr) (m cc : Nat) : Calls Try.prog 25 #[.slice ao m cc] w fun e w' => e = .returned (.func (.func 41) #[] #[.pointer (some ⟨w.heap.size, 0, none⟩)]) ∧ w' = w.alloc (.cells #[.slice ao m cc] 22) := by
  go_enter Try.func25, Try.ntmps25
  go_wp2
  go_ret
  exact ⟨rfl, rfl⟩
section
variable {F : Fence} {n : Nat} {w : World} {ops : Array Oper} {rest : List Oper} {o : Oper} {a : Act} {Q : Exit → Act → World → Prop}
theorem wpLInB_known (hp : ∀ c, o.op ≠ .defer c) (ha : o.about Try.prog w a.eval = none) (hw : Region.wanted o (yielded ops a.tmps) = true) (v : Value) (w' : World) (hrun : (execOp a.eval o).run Try.prog w = .ok (.value v) w') (h : wpListIn F n Try.prog ops Q rest (a.put o.dst v) w') : wpListIn F n Try.prog ops Q (o :: rest) a w := by
  refine BigFrame.wpListIn_want hw fun K hK => ?_
  unfold Oper.wpIn
  refine ⟨fun f hf => (by rw [ha] at hf; cases hf), ?_⟩
  rw [Oper.semAt_plain F _ _ hp, hrun, Oper.uponIn_value]
  exact hK _ _ h
theorem wpLInB_one (x : Operand) (ho : o.op = .buildSlice 31 1 #[(0, x)]) (hw : Region.wanted o (yielded ops a.tmps) = true) (p : ByteArray) (hx : a.eval x = .string p) (h : wpListIn F n Try.prog ops Q rest (a.put o.dst (.slice (some ⟨w.heap.size, 0, none⟩) 1 1)) (w.alloc (.cells #[.string p] 9))) : wpListIn F n Try.prog ops Q (o :: rest) a w :=
  wpLInB_known (by rw [ho]; intro c hc; cases hc) (by simp [Oper.about, ho]) hw _ _ (exec_oneB ho hx) h
theorem wpLInB_append (hgd : o.guard = none) (s x : Operand) (t : TypeId) (ho : o.op = .call { callee := .builtin .append, args := #[s, x], argTypes := #[t, t] }) (v vx v' : Value) (w' : World) (hs : a.eval s = v) (hx : a.eval x = vx)
    (hrun : (Builtin.append_ #[t, t] o.type #[v, vx]).run Try.prog w = .ok v' w') (h : wpListIn F n Try.prog ops Q rest (a.put o.dst v') w') : wpListIn F n Try.prog ops Q (o :: rest) a w := by
  refine wpListIn_plain hgd fun K hK => ?_
  unfold Oper.wpIn
  refine ⟨?_, ?_⟩
  · simp [Oper.about, ho, resolve, Target.leads, Sem.run_pure]
  · rw [Oper.semAt_plain F _ _ (by rw [ho]; intro c hc; cases hc)]
    simp [execOp, ho, resolve, invoke, builtin, hs, hx, hrun, Result.andThen]
    exact hK _ _ h
end
theorem owns_slice {W : World} {B : Nat} {v : Value} {n : Nat} {xs : List Value} (h : W.ownsRow B 9 1 v n xs) : ∃ ao c, v = .slice ao n c := by
  rcases h.2 with ⟨rfl, rfl⟩ | ⟨g, cap, cur, rfl, -⟩
  · exact ⟨none, 0, rfl⟩
  · exact ⟨_, _, rfl⟩
theorem owns_lt {W : World} {B : Nat} {v : Value} {n : Nat} {xs : List Value} (h : W.ownsRow B 9 1 v n xs) : ∀ j, v.ownBlock = some j → B ≤ j ∧ j < W.heap.size := by
  rcases h.2 with ⟨rfl, rfl⟩ | ⟨g, cap, cur, rfl, hg, hh, -⟩
  · intro j e; cases e
  · intro j e; cases e; exact ⟨hg, lt_of_block hh⟩
theorem owns_low {W : World} {B B' : Nat} {v : Value} {n : Nat} {xs : List Value} (h : W.ownsRow B 9 1 v n xs) (hB : B' ≤ B) : W.ownsRow B' 9 1 v n xs := by
  refine ⟨h.1, h.2.imp id ?_⟩
  rintro ⟨g, cap, cur, rfl, hg, r⟩
  exact ⟨g, cap, cur, rfl, by omega, r⟩
/-- Between two rounds of Paths. -/
structure PhI (w : World) (ao : Option Addr) (m cc : Nat) (L : List ByteArray) (S : Nat → Prop) (k : Nat) (W : World) : Prop where
  row : ∃ v, W.heap[w.heap.size]? = some (.cells #[v] 31 (0, 0)) ∧ W.ownsRow (w.heap.size + 4) 9 1 v k (Sb (L.take k)) ∧ ∀ j, v.ownBlock = some j → ¬ S j
  box : W.heap[w.heap.size + 1]? = some (.cells #[.slice ao m cc] 22 (0, 0))
  below : Below w.heap.size w W
  size : w.heap.size + 2 ≤ W.heap.size
theorem PhI.kept {w : World} {ao : Option Addr} {m cc : Nat} {L : List ByteArray} (S T : Nat → Prop) (k : Nat) (A B : World) (h : PhI w ao m cc L S k A) (hS : ∀ b, S b → w.heap.size + 2 + 2 ≤ b) (hO : Only (fun b => S b ∨ b = w.heap.size + 2 + 1) A B) (hT : ∀ b, T b → S b ∨ A.heap.size ≤ b) : PhI w ao m cc L T k B := by
  obtain ⟨v, h1, h2, h3⟩ := h.row
  have hs := h.size
  have hk : ∀ b, b < w.heap.size + 2 → B.heap[b]? = A.heap[b]? := fun b hb => hO.block b (by omega) (fun e => by rcases e with e | e; (have := hS b e; omega); omega)
  refine ⟨⟨v, (hk _ (by omega)).trans h1, owns_at h2 (fun j e => ?_), fun j e t => ?_⟩, (hk _ (by omega)).trans h.box, h.below.trans (hO.below (by omega) (fun b e => by rcases e with e | e; (have := hS b e; omega); omega)), by have := hO.size; omega⟩
  · have := owns_lt h2 j e
    exact hO.block j this.2 (fun q => by rcases q with q | q; exact h3 j e q; omega)
  · have := owns_lt h2 j e
    rcases hT j t with q | q
    · exact h3 j e q
    · omega
set_option maxRecDepth 100000 in
set_option maxHeartbeats 4000000 in
theorem paths_any (w : World) (ao : Option Addr) (m cc : Nat) (Nd : Nat → NoV) (hN : NoAt w ao m Nd) (hnm : ∀ d j, d < m → j < (Nd d).sn → ((Nd d).E j).nm.size ≤ 1000) (hm : m ≤ 16777216) (hl : (pathsS m Nd).length < 10000) : Calls Try.prog 14 #[.slice ao m cc] w fun e w' => ∃ v, e = .returned v ∧ w'.ownsRow w.heap.size 9 1 v (pathsS m Nd).length (Sb (pathsS m Nd)) ∧ Below w.heap.size w w' := by
  have HN := Hid.mk hN
  have HM := Hid.mk hm
  have HNM := Hid.mk hnm
  have HLL := Hid.mk hl
  clear hN hm hnm hl
  refine (callsIn_wide (n := 5)).1 ?_
  refine callsIn_of_wp_marks Try.func14 rfl trivial ?_ rfl
  simp only [Try.ntmps14, List.size_toArray, List.length_cons, List.length_nil, Nat.reduceAdd, Nat.reduceSub, Array.replicate_succ, Array.replicate_zero, List.push_toArray, List.append_toArray, List.nil_append, List.cons_append]
  gi_wp2_with (refine ⟨trivial, ?_⟩; gi_at_call 25; refine (callsIn_wide.2 (down_any _ _ _ _)).mono ?_; rintro e w3 ⟨rfl, hw3⟩)
  have es : w3.heap.size = w.heap.size + 2 := by rw [hw3]; simp
  have hI0 : PhI w ao m cc (pathsS m Nd) (fun _ => False) 0 w3 := by
    rw [hw3]
    refine ⟨⟨.slice none 0 0, ?_, ⟨rfl, .inl ⟨rfl, rfl⟩⟩, fun j e => by cases e⟩, two_new w _ _, ((Below.refl _ w).alloc (Nat.le_refl _) _).alloc (by simp) _, by simp⟩
    exact (Below.heap_alloc _ _ _ (by simp)).trans (blk_new w _)
  rw [← hw3]
  clear hw3
  refine wpIn_range_ky (gf := 41) (lb := #[.pointer (some ⟨w.heap.size + 1, 0, none⟩)]) rfl (enters_of Try.func41 (by kernel_rfl) rfl) (pathsS m Nd).length (fun k => #[.string ((pathsS m Nd).getD k ⟨#[]⟩)]) (fun _ => rfl)
    (PhI w ao m cc (pathsS m Nd)) (fun S T k A B h hS hO hT => PhI.kept S T k A B h (by rw [es] at hS; exact hS) (by rw [es] at hO; exact hO) hT) hI0 ?hit
    (fun k => { tmps := #[.slice ao m cc, undef, .slice none 0 0, .pointer (some ⟨w.heap.size, 0, none⟩), .string ((pathsS m Nd).getD k ⟨#[]⟩), .slice ao m cc, .func (.func 41) #[] #[.pointer (some ⟨w.heap.size + 1, 0, none⟩)], .string ((pathsS m Nd).getD k ⟨#[]⟩), undef, undef, undef, undef, undef, undef, undef, undef], defers := [] }) ?assign ?body ?done
  case hit =>
    intro l J W hJI hg hJ h0'
    exact callsIn_wide.2 (down_hit hJ rfl (fun S k A h => HN.out.blw (hJI S k A h).below) HNM.out HM.out W (w.heap.size + 1) (hJI _ _ _ h0').box h0')
  case assign =>
    intro n l k W K hK
    gi_wp2
    exact hK
  case body =>
    intro n l k S W hI hk hS hsz
    rw [es] at hS hsz ⊢
    obtain ⟨v, h1, h2, h3⟩ := hI.row
    obtain ⟨va, vc, rfl⟩ := owns_slice h2
    have c1 := blk_cell h1 0
    simp at c1
    obtain ⟨v', W', hr, hown, hgr, hat⟩ := appendB_run W (w.heap.size + 4) (.slice va k vc) k ((pathsS m Nd).take k) ((pathsS m Nd).getD k ⟨#[]⟩) h2 (by omega) (by have := HLL.out; omega)
    obtain ⟨va', vc', rfl⟩ := owns_slice hown
    have HR := Hid.mk hr
    have hlt := owns_lt h2
    have hkeep : ∀ b, b < W.heap.size → b < w.heap.size + 4 ∨ S b → W'.heap[b]? = W.heap[b]? := fun b hb hc => by
      rw [hgr.block b (by simp; omega) (fun e => ?_), Below.heap_alloc _ _ _ hb]
      have := hlt b e.symm
      rcases hc with hc | hc
      · omega
      · exact h3 b e.symm hc
    have hsW : W.heap.size + 1 ≤ W'.heap.size := by have := hgr.size; simp at this; exact this
    have hob : W'.heap[w.heap.size]? = some (.cells #[.slice va k vc] 31 (0, 0)) := (hkeep _ (by have := hI.size; omega) (.inl (by omega))).trans h1
    have c2 := blk_cell hob 0
    simp at c2
    have f2 : W'.frozen? ⟨w.heap.size, 0, none⟩ = false := blk_free hob 0
    have hne : ¬ ((k + 1 : Nat) : Int) = 10000 := by have := HLL.out; omega
    have hneb : (((k + 1 : Nat) : Int) == 10000) = false := by simpa using hne
    have HFIN : Hid ((W'.setCell ⟨w.heap.size, 0, none⟩ (.slice va' (k + 1) vc')).heap[w.heap.size + 2]? = W.heap[w.heap.size + 2]? ∧ (W'.setCell ⟨w.heap.size, 0, none⟩ (.slice va' (k + 1) vc')).heap[w.heap.size + 2 + 1]? = W.heap[w.heap.size + 2 + 1]? ∧ (∀ b, S b → (W'.setCell ⟨w.heap.size, 0, none⟩ (.slice va' (k + 1) vc')).heap[b]? = W.heap[b]?) ∧ W.heap.size ≤ W'.heap.size ∧ PhI w ao m cc (pathsS m Nd) S (k + 1) (W'.setCell ⟨w.heap.size, 0, none⟩ (.slice va' (k + 1) vc'))) := Hid.mk (by
      have hz : (W'.setCell ⟨w.heap.size, 0, none⟩ (.slice va' (k + 1) vc')).heap.size = W'.heap.size := by simp [World.setCell]
      have hst : ∀ b, b ≠ w.heap.size → (W'.setCell ⟨w.heap.size, 0, none⟩ (.slice va' (k + 1) vc')).heap[b]? = W'.heap[b]? := fun b hb => Below.heap_setCell _ _ _ _ hb
      have hS2 := fun b hb => (hS b hb)
      refine ⟨(hst _ (by omega)).trans (hkeep _ (by omega) (.inl (by omega))), (hst _ (by omega)).trans (hkeep _ (by omega) (.inl (by omega))), fun b hb => (hst b (by have := hS b hb; omega)).trans (hkeep b (hS b hb).2 (.inr hb)), by omega, ?_⟩
      refine ⟨⟨.slice va' (k + 1) vc', one_setCell hob, ?_, fun j e hj => ?_⟩, (hst _ (by omega)).trans ((hkeep _ (by have := hI.size; omega) (.inl (by omega))).trans hI.box), ?_, by have := hI.size; omega⟩
      · have e2 : (pathsS m Nd).take (k + 1) = (pathsS m Nd).take k ++ [(pathsS m Nd).getD k ⟨#[]⟩] := by
          rw [List.take_add_one, List.getD, List.getElem?_eq_getElem hk]
          simp
        rw [e2]
        exact owns_at hown (fun j e => hst j (by have := owns_lt hown j e; omega))
      · rcases hat with q | q
        · rw [q] at e
          exact h3 j e hj
        · rw [q] at e
          have := hS j hj
          cases e
          omega
      · refine ⟨?_, ?_, ?_, by have := hI.below.size; omega, fun b hb => (hst b (by omega)).trans ((hkeep b (by have := hI.size; omega) (.inl (by omega))).trans (hI.below.block b hb))⟩
        · exact hgr.os.trans hI.below.os
        · exact hgr.tape.trans hI.below.tape
        · exact hgr.output.trans hI.below.output)
    generalize hsk : (pathsS m Nd).getD k ⟨#[]⟩ = sk at *
    clear hI hown hgr hat hkeep hlt hob h1 h2 h3 hr hS hsz
    gi_wp2_with (first
      | (refine wpLInB_one (.tmp 9) rfl (by kernel_rfl) sk (by kernel_rfl) ?_)
      | (refine wpLInB_append rfl (.tmp 8) (.tmp 10) 31 rfl _ _ _ W' (by kernel_rfl) (by kernel_rfl) HR.out ?_; simp only [Act.put]))
    exact HFIN.out
  case done =>
    intro D S W hD hI hS hKD
    rw [es] at hD
    obtain ⟨v, h1, h2, h3⟩ := hI.row
    obtain ⟨va, vc, rfl⟩ := owns_slice h2
    have c1 := blk_cell h1 0
    simp at c1
    have hDB := grownBy_putObj' W D (.deferred none)
    have HDK := Hid.mk hKD
    have HGO : Hid (Below w.heap.size w (W.putObj D (.deferred none))) := Hid.mk (hI.below.trans (belowK_b (w := w) (Nat.le_refl _) W D _ _ (by omega) hKD rfl rfl))
    have HOW : Hid ((W.putObj D (.deferred none)).ownsRow w.heap.size 9 1 (.slice va (pathsS m Nd).length vc) (pathsS m Nd).length (Sb (pathsS m Nd))) := Hid.mk (by
      have e : (pathsS m Nd).take (pathsS m Nd).length = pathsS m Nd := List.take_length
      rw [e] at h2
      exact owns_low (owns_at h2 (fun j q => hDB.block j (owns_lt h2 j q).2 (fun x => by have := owns_lt h2 j q; have := Option.some.inj x; omega))) (by omega))
    clear hI hKD h1 h2 h3 hDB hI0
    gi_wp2
    refine ⟨by simp, .inl ⟨_, _, rfl, run_takeDeferred HDK.out, ?_⟩⟩
    refine ⟨.slice va (pathsS m Nd).length vc, ?_, _, rfl, HOW.out, HGO.out⟩
    simp [results, Try.f14, go_sem]
end Go.Proofs.Ytbahbhaoimabdaa
