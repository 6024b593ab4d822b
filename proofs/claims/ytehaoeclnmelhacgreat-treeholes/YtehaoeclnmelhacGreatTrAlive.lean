/-
  A tree of one's own, with boxes beside it; the document's example.
-/
import Derived.Test.YtehaoeclnmelhacGreatTrLaw
namespace Go.Proofs.YtehaoeclnmelhacGreat
open Go Go.Proofs Go.RowKit Go.Shelf Go.Sort

/-- A tree that was made since w; the blocks of B are none of its own. -/
structure OwnT (w W : World) (t : Nat) (σ : Tr) (B : Nat → Prop) : Prop where
  below : Below w.heap.size w W
  ex : ∃ Ls, TrAt W t σ Ls ∧ ∀ k ∈ feet t Ls, w.heap.size ≤ k ∧ ¬ B k
theorem OwnT.then {w W W' : World} {t : Nat} {σ : Tr} {B : Nat → Prop} (h : OwnT w W t σ B) (hB : Below W.heap.size W W') : OwnT w W' t σ B := by
  obtain ⟨h1, Ls, h2, h3⟩ := h
  exact ⟨h1.trans (hB.mono h1.size), Ls, h2.below rfl hB, h3⟩
theorem OwnT.box {w W : World} {t : Nat} {σ : Tr} {B : Nat → Prop} (h : OwnT w W t σ B) (o : Obj) : OwnT w (W.alloc o) t σ (fun k => B k ∨ k = W.heap.size) := by
  obtain ⟨h1, Ls, h2, h3⟩ := h
  have hB : Below W.heap.size W (W.alloc o) := (Below.refl _ W).alloc (Nat.le_refl _) _
  refine ⟨h1.trans (hB.mono h1.size), Ls, h2.below rfl hB, fun k hk => ⟨(h3 k hk).1, ?_⟩⟩
  rintro (h | h)
  · exact (h3 k hk).2 h
  · have := h2.lt k hk
    omega
theorem OwnT.less {w W : World} {t : Nat} {σ : Tr} {B B' : Nat → Prop} (h : OwnT w W t σ B) (hB : ∀ k, B' k → B k) : OwnT w W t σ B' := by
  obtain ⟨h1, Ls, h2, h3⟩ := h
  exact ⟨h1, Ls, h2, fun k hk => ⟨(h3 k hk).1, fun hb => (h3 k hk).2 (hB k hb)⟩⟩
theorem own_do {w W : World} {t : Nat} {σ σ' : Tr} {B : Nat → Prop} {F : FuncId} {vs : Array Value} {v : Value} (hO : OwnT w W t σ B) (hB : ∀ k, B k → k < W.heap.size) (hC : ∀ Ls, TrAt W t σ Ls → Calls Tryz.prog F vs W fun e w' => e = .returned v ∧ Step (fun k => k ∈ feet t Ls) W t w' σ') :
    Calls Tryz.prog F vs W fun e w' => e = .returned v ∧ OwnT w w' t σ' B ∧ (∀ k, B k → w'.heap[k]? = W.heap[k]?) ∧ W.heap.size ≤ w'.heap.size := by
  obtain ⟨h1, Ls, h2, h3⟩ := hO
  refine (hC Ls h2).mono ?_
  rintro e w' ⟨rfl, ⟨⟨Ls', h4, h5⟩, h6⟩⟩
  refine ⟨rfl, ⟨?_, Ls', h4, fun k hk => ?_⟩, fun k hk => h6.block k (hB k hk) (fun hf => (h3 k hf).2 hk), h6.size⟩
  · exact ((Only.of_below (S := fun _ => False) h1 (fun k h1 h2 => by omega)).trans h6 (fun i hi => .inr (h3 i hi).1)).below (Nat.le_refl _) (fun _ h => h.elim)
  · rcases h5 k hk with h | h
    · exact h3 k h
    · exact ⟨Nat.le_trans h1.size h, fun hb => by have := hB k hb; omega⟩
set_option maxRecDepth 100000 in
set_option maxHeartbeats 4000000 in
theorem alive_any (w : World) : Calls Tryz.prog 7 #[] w fun e w' => e = .returned (.bool true) ∧ Below w.heap.size w w' := by
  have mixed : Tryz.prog.follows Departure.mixedOrders = true := by kernel_rfl
  have H1 : Hid (∀ (W : World) (t : Nat) (B : Nat → Prop), OwnT w W t (newT 1 1 20) B → (∀ k, B k → k < W.heap.size) → Calls Tryz.prog 9 #[ptrV t, callV 2 ⟨#[47, 97]⟩ ⟨#[]⟩ 0 0 (.slice none 0 0)] W fun e w' => e = .returned (errV 0) ∧ OwnT w w' t exA B ∧ (∀ k, B k → w'.heap[k]? = W.heap[k]?) ∧ W.heap.size ≤ w'.heap.size) := Hid.mk (fun W t B hO hB => own_do hO hB (fun Ls hT => by
    have := doo_mkdir W t _ Ls hT (new_ok _ _ _) ⟨#[47, 97]⟩ ⟨#[]⟩ 0 0 none 0 0 (by decide)
    rw [show ofS (⟨#[47, 97]⟩ : ByteArray) = [47, 97] from rfl, exA_err] at this
    exact this))
  have H2 : Hid (∀ (W : World) (t : Nat) (B : Nat → Prop), OwnT w W t exA B → (∀ k, B k → k < W.heap.size) → Calls Tryz.prog 9 #[ptrV t, callV 1 ⟨#[47, 97, 47, 98]⟩ ⟨#[]⟩ 0 0 (.slice none 0 0)] W fun e w' => e = .returned (errV 0) ∧ OwnT w w' t exB B ∧ (∀ k, B k → w'.heap[k]? = W.heap[k]?) ∧ W.heap.size ≤ w'.heap.size) := Hid.mk (fun W t B hO hB => own_do hO hB (fun Ls hT => by
    have := doo_create W t _ Ls hT exA_ok ⟨#[47, 97, 47, 98]⟩ ⟨#[]⟩ 0 0 none 0 0 (by decide)
    rw [show ofS (⟨#[47, 97, 47, 98]⟩ : ByteArray) = [47, 97, 47, 98] from rfl, exB_err] at this
    exact this))
  have H3 : Hid (∀ (W : World) (t : Nat) (B : Nat → Prop), OwnT w W t exB B → (∀ k, B k → k < W.heap.size) → Calls Tryz.prog 9 #[ptrV t, callV 6 ⟨#[47, 97]⟩ ⟨#[47, 97, 47, 99]⟩ 0 0 (.slice none 0 0)] W fun e w' => e = .returned (errV 19) ∧ OwnT w w' t exB B ∧ (∀ k, B k → w'.heap[k]? = W.heap[k]?) ∧ W.heap.size ≤ w'.heap.size) := Hid.mk (fun W t B hO hB => own_do hO hB (fun Ls hT => 
    doo_loop W t _ Ls hT ⟨#[47, 97]⟩ ⟨#[47, 97, 47, 99]⟩ 0 0 none 0 0 (by decide) (by decide) [] [[97]] [97] [99] ex_s1 ex_s2 0 1 1 none ex_p1 ex_p2 (by rw [exB_nodes]; decide) ex_w))
  unfold errV callV ptrV at H1 H2 H3
  go_enter Tryz.func7, Tryz.ntmps7
  go_upto_region 4 with (first
    | (go_at_call 13; refine (lG_any _ _).mono ?_; rintro e W1 ⟨rfl, hB1⟩; have B1 := Hid.mk hB1; clear hB1)
    | (go_at_call 8; refine (new_any _ _ _ _).mono ?_; rintro e W2 ⟨rfl, hT2, hB2⟩; have O0 : Hid (OwnT w W2 (W1.heap.size + 4) (newT 1 1 20) (fun _ => False)) := Hid.mk ⟨B1.out.trans (hB2.mono B1.out.size), _, hT2, fun k hk => ⟨by simp [feet, Lay.foot] at hk; have := B1.out.size; omega, fun h => h⟩⟩; unfold ptrV; clear hT2 hB2))
  generalize W1.heap.size + 4 = t at *
  clear B1
  go_upto_region 5 with (first
    | (go_at_call 10; refine (lC_any _ _ _).mono ?_; rintro e W3 ⟨rfl, hB3⟩; have O1 := Hid.mk (O0.out.then hB3); unfold callV; clear hB3)
    | (go_at_call 9; refine (H1.out _ _ _ O1.out (fun k h => h.elim)).mono ?_; rintro e W4 ⟨rfl, hO, -, -⟩; have O2 := Hid.mk hO; clear hO))
  obtain ⟨Y4, hY4⟩ : ∃ Y4, Y4 = W4.alloc (.cells #[.int .i64 0, .slice none 0 0, .int .i64 0, .int .i64 0, .int .i64 0, .slice none 0 0, .int .i64 0] 31) := ⟨_, rfl⟩
  have P4 : Hid (OwnT w Y4 t exA (fun k => k = W4.heap.size)) := Hid.mk (by rw [hY4]; exact (O2.out.box _).less (fun k h => .inr h))
  have X4 : Hid (Y4.heap[W4.heap.size]? = some (.cells #[.int .i64 0, .slice none 0 0, .int .i64 0, .int .i64 0, .int .i64 0, .slice none 0 0, .int .i64 0] 31 (0, 0))) := Hid.mk (by rw [hY4]; exact blk_new W4 _)
  rw [← hY4]
  generalize W4.heap.size = b4 at *
  clear hY4 O0 O1 O2 H1
  go_upto_region 6 with (first
    | (go_at_call 10; refine (lC_any _ _ _).mono ?_; rintro e W5 ⟨rfl, hB5⟩; have O1 := Hid.mk (P4.out.then hB5); have X5 := Hid.mk ((hB5.block _ (lt_of_block X4.out)).trans X4.out); unfold callV; clear hB5)
    | (go_at_call 9; refine (H2.out _ _ _ O1.out (fun k h => by rw [h]; exact lt_of_block X5.out)).mono ?_; rintro e W6 ⟨rfl, hO, hk, -⟩; have X6 := Hid.mk ((hk _ rfl).trans X5.out); have O2 := Hid.mk hO; clear hO hk))
  obtain ⟨Y6, hY6⟩ : ∃ Y6, Y6 = W6.alloc (.cells #[.int .i64 0, .slice none 0 0, .int .i64 0, .int .i64 0, .int .i64 0, .slice none 0 0, .int .i64 0] 31) := ⟨_, rfl⟩
  have P6 : Hid (OwnT w Y6 t exB (fun k => k = b4 ∨ k = W6.heap.size)) := Hid.mk (by rw [hY6]; exact O2.out.box _)
  have Z6 : Hid (Y6.heap[b4]? = some (.cells #[.int .i64 0, .slice none 0 0, .int .i64 0, .int .i64 0, .int .i64 0, .slice none 0 0, .int .i64 0] 31 (0, 0))) := Hid.mk (by rw [hY6, Below.heap_alloc _ _ _ (lt_of_block X6.out)]; exact X6.out)
  have X7 : Hid (Y6.heap[W6.heap.size]? = some (.cells #[.int .i64 0, .slice none 0 0, .int .i64 0, .int .i64 0, .int .i64 0, .slice none 0 0, .int .i64 0] 31 (0, 0))) := Hid.mk (by rw [hY6]; exact blk_new W6 _)
  rw [← hY6]
  generalize W6.heap.size = b6 at *
  clear hY6 O1 O2 X4 X5 X6 P4 H2
  go_upto_region 7 with (first
    | (go_at_call 15; refine (lTo_any _ _ _ _).mono ?_; rintro e W7 ⟨rfl, hB7⟩; have O1 := Hid.mk (P6.out.then hB7); have X8 := Hid.mk ((hB7.block _ (lt_of_block Z6.out)).trans Z6.out); have X9 := Hid.mk ((hB7.block _ (lt_of_block X7.out)).trans X7.out); unfold callV; clear hB7)
    | (go_at_call 9; refine (H3.out _ _ _ O1.out (fun k h => h.elim (fun h => by rw [h]; exact lt_of_block X8.out) (fun h => by rw [h]; exact lt_of_block X9.out))).mono ?_; rintro e W8 ⟨rfl, hO, hk, -⟩; have XA := Hid.mk ((hk _ (.inl rfl)).trans X8.out); have XB := Hid.mk ((hk _ (.inr rfl)).trans X9.out); have O2 := Hid.mk hO.below; clear hO hk))
  obtain ⟨Y8, hY8⟩ : ∃ Y8, Y8 = W8.alloc (.cells #[.int .i64 19, .slice none 0 0, .int .i64 0, .int .i64 0, .int .i64 0, .slice none 0 0, .int .i64 0] 31) := ⟨_, rfl⟩
  have PB : Hid (Below w.heap.size w Y8) := Hid.mk (by rw [hY8]; exact O2.out.alloc O2.out.size _)
  have q4 : Y8.heap[b4]? = some (.cells #[.int .i64 0, .slice none 0 0, .int .i64 0, .int .i64 0, .int .i64 0, .slice none 0 0, .int .i64 0] 31 (0, 0)) := by rw [hY8, Below.heap_alloc _ _ _ (lt_of_block XA.out)]; exact XA.out
  have q6 : Y8.heap[b6]? = some (.cells #[.int .i64 0, .slice none 0 0, .int .i64 0, .int .i64 0, .int .i64 0, .slice none 0 0, .int .i64 0] 31 (0, 0)) := by rw [hY8, Below.heap_alloc _ _ _ (lt_of_block XB.out)]; exact XB.out
  have q8 : Y8.heap[W8.heap.size]? = some (.cells #[.int .i64 19, .slice none 0 0, .int .i64 0, .int .i64 0, .int .i64 0, .slice none 0 0, .int .i64 0] 31 (0, 0)) := by rw [hY8]; exact blk_new W8 _
  rw [← hY8]
  generalize W8.heap.size = b8 at *
  have c4 := blk_cell q4 0
  have c6 := blk_cell q6 0
  have c8 := blk_cell q8 0
  simp at c4 c6 c8
  clear hY8 O1 O2 X7 X8 X9 XA XB P6 Z6 H3 q4 q6 q8
  have k4 := cell_regrown c4
  have k6 := cell_regrown c6
  have k8 := cell_regrown c8
  have cN : ∀ (e : Int) dd' os, Calls Tryz.prog 11 #[.int .i64 e] (grow (redrawn Y8 dd') os) fun x w'' => x = .returned (.int .i64 e) ∧ ∃ p : Regrown, w'' = grow (redrawn Y8 p.d) p.os := fun e dd' os => (lnum_any _ e).mono (fun x w'' hh => ⟨hh.1, ⟨⟨dd', os⟩, hh.2⟩⟩)
  refine wp_region_quiet_below mixed (by kernel_rfl) ?_
  repeat (go_big_quiet_step (first | (go_at_call 11; exact cN _ _ _)))
  refine wpQuiet_nil ?_
  intro W9 hw'
  obtain ⟨⟨dq, osq⟩, hw''⟩ := hw'
  have hB9 := below_regrown Y8 dq osq
  rw [← hw''] at hB9
  have HB9 : Hid (Below w.heap.size w W9) := Hid.mk (PB.out.trans (hB9.mono PB.out.size))
  clear hw'' hB9 cN k4 k6 k8 c4 c6 c8
  go_wp2
  go_ret
  exact ⟨rfl, HB9.out⟩
end Go.Proofs.YtehaoeclnmelhacGreat
