/-
  A change is added: Add.
-/
import Derived.Test.YthmbhcmicebcpaaDpAddI
namespace Go.Proofs.Ythmbhcmicebcpaa
open Go Go.Proofs Go.RowKit Go.Shelf
open Go.ChangeMaps (setBlock)
attribute [local go_sem] Oper.semAt_some
theorem exec_loadV {ev : Operand → Value} {oi : Oper} {p : Operand} {a : Addr} {v : Value} {W : World} (ho : oi.op = .load 23 p) (hp : ev p = .pointer (some a)) (hv : ∃ ao n c, v = .slice ao n c) (hc : W.cell? a = some v) : (execOp ev oi).run Try.prog W = .ok (.value v) W := by
  obtain ⟨ao, n, c, rfl⟩ := hv
  unfold execOp
  simp only [ho, hp]
  go_simp
theorem exec_storeV {ev : Operand → Value} {oi : Oper} {p x : Operand} {a : Addr} {v u : Value} {W : World} (ho : oi.op = .store 23 p x) (hp : ev p = .pointer (some a)) (hx : ev x = v) (hv : ∃ ao n c, v = .slice ao n c) (hc : W.cell? a = some u) (hf : W.frozen? a = false) : (execOp ev oi).run Try.prog W = .ok .skip (W.setCell a v) := by
  obtain ⟨ao, n, c, rfl⟩ := hv
  exact exec_storeI ho hp hx hc hf
/-- Those of a row that are open. -/
def opens (A : Ga) (xs : List Int) : List Int := xs.filter (fun y => (A.ch y).isSome)
noncomputable def Ga.add (A : Ga) (buf : Int) (xs : List Int) : Ga := Ga.keep { ((opens A xs).foldl (addStep A.added) ([], A)).2 with added := A.added + 1 } A.added ⟨buf, ((opens A xs).foldl (addStep A.added) ([], A)).1, []⟩
theorem ins_len_le (x : Int) (S : List Int) : (insS x S).length ≤ S.length + 1 := by
  induction S with
  | nil => simp [insS]
  | cons z r ih =>
    unfold insS
    split
    · simp
    · split
      · simp
      · simp; omega
theorem addStep_len (i : Int) (ys : List Int) (A : Ga) : (ys.foldl (addStep i) ([], A)).1.length ≤ ys.length := by
  have aux : ∀ (ys : List Int) (p : List Int × Ga), (ys.foldl (addStep i) p).1.length ≤ p.1.length + ys.length := by
    intro ys
    induction ys with
    | nil => intro p; simp
    | cons y r ih =>
      intro p
      rw [List.foldl_cons]
      have h1 := ih (addStep i p y)
      have h2 : (addStep i p y).1.length ≤ p.1.length + 1 := by
        unfold addStep
        split
        · omega
        · exact ins_len_le y p.1
      simp
      omega
  have := aux ys ([], A)
  simpa using this
theorem addStep_rest (i : Int) (ys : List Int) (A : Ga) : ∃ f, (ys.foldl (addStep i) ([], A)).2 = { A with ch := f } := by
  have aux : ∀ (ys : List Int) (p : List Int × Ga), (∃ f, p.2 = { A with ch := f }) → ∃ f, (ys.foldl (addStep i) p).2 = { A with ch := f } := by
    intro ys
    induction ys with
    | nil => intro p h; exact h
    | cons y r ih =>
      intro p h
      rw [List.foldl_cons]
      refine ih _ ?_
      obtain ⟨f, hf⟩ := h
      unfold addStep
      split
      · exact ⟨f, hf⟩
      · show ∃ f, (p.2.hang i y) = _
        unfold Ga.hang
        cases hc : p.2.ch y with
        | none => exact ⟨f, hf⟩
        | some c => exact ⟨_, by rw [hf]⟩
  exact aux ys ([], A) ⟨A.ch, rfl⟩
theorem range_getD (xs : List Int) : (List.range xs.length).map (fun j => xs.getD j 0) = xs := by
  apply List.ext_getElem
  · simp
  · intro j h1 h2
    simp [List.getD_eq_getElem?_getD, List.getElem?_eq_getElem h2]
theorem opens_at (D : Gd) (xs : List Int) : (List.range xs.length).filterMap (fun j => (D.ch (xs.getD j 0)).map (·.cb)) = (opens D.abs xs).map (fun y => ((D.ch y).map (·.cb)).getD 0) := by
  have e : (fun j => (D.ch (xs.getD j 0)).map (·.cb)) = (fun y => (D.ch y).map (·.cb)) ∘ (fun j => xs.getD j 0) := rfl
  rw [e, ← List.filterMap_map, range_getD]
  unfold opens
  clear e
  induction xs with
  | nil => rfl
  | cons x r ih =>
    rw [List.filterMap_cons, List.filter_cons]
    cases hc : D.ch x with
    | none =>
      have : (D.abs.ch x).isSome = false := by show ((D.ch x).map _).isSome = false; rw [hc]; rfl
      rw [if_neg (by rw [this]; simp)]
      exact ih
    | some c =>
      have : (D.abs.ch x).isSome = true := by show ((D.ch x).map _).isSome = true; rw [hc]; rfl
      rw [if_pos this, List.map_cons, ← ih, hc]
      rfl
section
variable {F : Nat → Prop} {w : World} {g : Nat} {D : Gd}
set_option maxRecDepth 100000 in
set_option maxHeartbeats 8000000 in
theorem add_no (h : GrAt F w g D) (buf : Int) (ao : Option Addr) (m cc : Nat) (xs : List Int) (hx : LAt w ao m xs) (hm : m ≤ 1000000) (hany : xs.any (noneB D.added) = true) :
    Calls Try.prog 27 #[ptV g, .int .i64 buf, .slice ao m cc] w fun e w' => e = .returned (.tuple #[.int .i64 0, .int .i64 1]) ∧ w' = w := by
  have HC := Hid.mk (contains_raw w g D.added h.cellsG.1 ao m cc xs hx (by omega))
  rw [hany] at HC
  refine (callsIn_wide (n := 6)).1 ?_
  refine callsIn_of_wp_marks Try.func27 rfl trivial ?_ rfl
  simp only [Try.ntmps27, List.size_toArray, List.length_cons, List.length_nil, Nat.reduceAdd, Nat.reduceSub, Array.replicate_succ, Array.replicate_zero, List.push_toArray, List.append_toArray, List.nil_append, List.cons_append]
  gi_wp2_with (refine ⟨trivial, ?_⟩; gi_at_call 46; refine (callsIn_wide.2 HC.out).mono ?_; rintro e w3 ⟨rfl, hw3⟩; subst hw3)
  refine ⟨_, results_tmp2 rfl _ _ _, ?_⟩
  exact ⟨rfl, rfl⟩
set_option maxRecDepth 100000 in
set_option maxHeartbeats 8000000 in
theorem add_yes (h : GrAt F w g D) (ok : D.abs.Ok) (hmm : D.lm.isSome = D.bm.isSome) (buf : Int) (hwb : (Lit.int .i64 buf).wf = true) (ao : Option Addr) (m cc : Nat) (xs : List Int) (hx : LAt w ao m xs) (hm : m < 1000000) (hro : ∀ a, ao = some a → 0 < m → a.block < w.heap.size ∧ ¬ F a.block) (hany : xs.any (noneB D.added) = false)
    (hlen : ∀ y c, D.abs.ch y = some c → c.ab.length ≤ 900000) (hnl : D.nl < 1000000) (hnb : D.nb < 1000000) (hbig : D.added < 900000) :
    Calls Try.prog 27 #[ptV g, .int .i64 buf, .slice ao m cc] w fun e w' => e = .returned (.tuple #[.int .i64 (D.added : Nat), .int .i64 0]) ∧ ∃ D', GrAt (Grown F w) w' g D' ∧ D'.abs = D.abs.add buf xs ∧ Only F w w' := by
  have HC := Hid.mk (contains_raw w g D.added h.cellsG.1 ao m cc xs hx (by omega))
  rw [hany] at HC
  obtain ⟨ga0, _, _, _⟩ := h.cellsG
  obtain ⟨i, hi⟩ : ∃ i : Int, i = (D.added : Nat) := ⟨_, rfl⟩
  rw [← hi] at ga0
  have hgl : g < w.heap.size := h.lt (n := .g) rfl
  have HCG : Hid (∀ o1 o2 : Obj, ((w.alloc o1).alloc o2).cell? ⟨g, 0, none⟩ = some (.int .i64 i)) := Hid.mk (fun o1 o2 => by
    rw [World.cell?_of_block (w := w) (by rw [Below.heap_alloc _ _ _ (by simp; omega), Below.heap_alloc _ _ _ hgl])]
    exact ga0)
  obtain ⟨w2, hw2⟩ : ∃ w2, w2 = (w.alloc (.cells #[.int .i64 i, .int .i64 buf, .map none, .slice none 0 0] 77)).alloc (.cells #[ptV w.heap.size] 56) := ⟨_, rfl⟩
  have HW2 := Hid.mk hw2
  have HH := Hid.mk h
  have HOK := Hid.mk ok
  have HX := Hid.mk hx
  have HRO := Hid.mk hro
  have HLEN := Hid.mk hlen
  have HI := Hid.mk hi
  have HM := Hid.mk hm
  have HPB : Hid (∀ k p, p = (List.foldl (addStep i) ([], D.abs) ((opens D.abs xs).take k)) → p.1.length < 1000000) := Hid.mk (fun k p hp => by
    have h1 : p.1.length ≤ ((opens D.abs xs).take k).length := by rw [hp]; exact addStep_len i _ D.abs
    have h2 : ((opens D.abs xs).take k).length ≤ xs.length := by
      rw [List.length_take]
      have := List.length_filter_le (fun y => (D.abs.ch y).isSome) xs
      unfold opens
      omega
    rw [hx.1] at h2
    omega)
  have HWX : Hid (∀ j, j < m → (Lit.int .i64 (xs.getD j 0)).wf = true) := Hid.mk (fun j hj => by
    have hjl : j < xs.length := by rw [hx.1]; exact hj
    have hmem : xs.getD j 0 ∈ xs := by rw [List.getD_eq_getElem?_getD, List.getElem?_eq_getElem hjl]; exact List.getElem_mem hjl
    have hnb0 := List.any_eq_false.1 hany _ hmem
    have h9 : ¬ (xs.getD j 0 < 0 ∨ (D.added : Int) ≤ xs.getD j 0) := fun hh => hnb0 (decide_eq_true hh)
    exact wf_small (n := D.added) ⟨by omega, by omega⟩ (by omega))
  clear hany hx hro hlen h ok hm hi hw2
  refine (callsIn_wide (n := 6)).1 ?_
  refine callsIn_of_wp_marks Try.func27 rfl trivial ?_ rfl
  simp only [Try.ntmps27, List.size_toArray, List.length_cons, List.length_nil, Nat.reduceAdd, Nat.reduceSub, Array.replicate_succ, Array.replicate_zero, List.push_toArray, List.append_toArray, List.nil_append, List.cons_append]
  gi_wp2_with (first
    | (refine ⟨trivial, ?_⟩; gi_at_call 46; refine (callsIn_wide.2 HC.out).mono ?_; rintro e w3 ⟨rfl, hw3⟩; have hw3' := hw3.symm; clear hw3; subst hw3')
    | (refine ⟨trivial, ?_⟩; gi_at_call 41; rw [← HW2.out]; refine (callsIn_wide.2 (open_any w2 g (.slice ao m cc) ⟨_, _, _, rfl⟩)).mono ?_; rintro e w5 ⟨rfl, hw5⟩; have HW5 := Hid.mk hw5; clear hw5))
  obtain ⟨q, hq⟩ : ∃ q, q = w2.heap.size := ⟨_, rfl⟩
  rw [← hq]
  have hq2 : q = w.heap.size + 2 := by rw [hq, HW2.out]; simp
  have hs5 : w5.heap.size = q + 2 := by rw [HW5.out, hq]; simp
  have hB2 : Below w.heap.size w w2 := by rw [HW2.out]; exact ((Below.refl _ w).alloc (Nat.le_refl _) _).alloc (by simp) _
  have hB5 : Below w2.heap.size w2 w5 := by rw [HW5.out]; exact ((Below.refl _ _).alloc (Nat.le_refl _) _).alloc (by simp) _
  have hB : Below w.heap.size w w5 := hB2.trans (hB5.mono hB2.size)
  have hAC : AdC F w w5 q ao m := ⟨by omega, by omega, HRO.out⟩
  have hc2 : w2.heap[w.heap.size]? = some (.cells #[.int .i64 i, .int .i64 buf, .map none, .slice none 0 0] 77 (0, 0)) := by
    rw [HW2.out, Below.heap_alloc _ _ _ (by simp)]
    exact blk_new w _
  have hc3 : w2.heap[w.heap.size + 1]? = some (.cells #[ptV w.heap.size] 56 (0, 0)) := by
    rw [HW2.out]
    have := blk_new (w.alloc (.cells #[.int .i64 i, .int .i64 buf, .map none, .slice none 0 0] 77)) (.cells #[ptV w.heap.size] 56)
    rwa [World.size_alloc] at this
  have hI0 : AdI F w w5 q g D i buf ao m cc xs ([], D.abs) w5 := by
    refine ⟨(hB5.block _ (by omega)).trans hc3, ?_, ?_, HX.out.next hB, Nat.le_refl _, Only.of_new F hB, fun y _ => rfl, D, none, (HH.out.tight.grow hB).mono (fun k hk hF => ?_), rfl, HOK.out, fun _ => rfl, (hB5.block _ (by omega)).trans hc2, StAt.nil _, fun k hk => by cases hk⟩
    · rw [HW5.out, Below.heap_alloc _ _ _ (by rw [hq]; simp), hq]
      exact blk_new w2 _
    · rw [HW5.out]
      have := blk_new (w2.alloc (.cells #[ptV g] 26)) (.cells #[.slice ao m cc] 23)
      rw [World.size_alloc] at this
      rw [hq]
      exact this
    · obtain ⟨n, hn⟩ := hF
      exact .inl (HH.out.own n k hn)
  have HI0 := Hid.mk hI0
  have HS5 := Hid.mk hs5
  have HQ2 := Hid.mk hq2
  have HAC := Hid.mk hAC
  clear hI0 hc2 hc3 hB hB5 hB2 hq
  obtain ⟨ys, hys⟩ : ∃ ys, ys = opens D.abs xs := ⟨_, rfl⟩
  obtain ⟨P, hP⟩ : ∃ P : Nat → Option Nat, P = fun j => (D.ch (xs.getD j 0)).map (·.cb) := ⟨_, rfl⟩
  have hfm : (List.range m).filterMap P = ys.map (fun y => ((D.ch y).map (·.cb)).getD 0) := by rw [← HX.out.1, hP, opens_at, hys]
  obtain ⟨pl, hpl⟩ : ∃ pl : Nat → Nat, pl = fun k => (ys.map (fun y => ((D.ch y).map (·.cb)).getD 0)).getD k 0 := ⟨_, rfl⟩
  have hyin : ∀ k, k < ys.length → ys.getD k 0 ∈ xs ∧ ∃ c, D.ch (ys.getD k 0) = some c ∧ pl k = c.cb := fun k hk => by
    have hm : ys.getD k 0 ∈ ys := by rw [List.getD_eq_getElem?_getD, List.getElem?_eq_getElem hk]; exact List.getElem_mem hk
    have hm2 : ys.getD k 0 ∈ opens D.abs xs := by rw [← hys]; exact hm
    obtain ⟨h1, h2⟩ := List.mem_filter.1 hm2
    refine ⟨h1, ?_⟩
    have h3 : ((D.ch (ys.getD k 0)).map Cx.dat).isSome = true := h2
    cases hc : D.ch (ys.getD k 0) with
    | none => rw [hc] at h3; cases h3
    | some c =>
      refine ⟨c, rfl, ?_⟩
      rw [hpl]
      show (ys.map _).getD k 0 = _
      rw [List.getD_eq_getElem?_getD, List.getElem?_map, List.getElem?_eq_getElem hk]
      show ((D.ch ys[k]).map (·.cb)).getD 0 = _
      rw [show ys[k] = ys.getD k 0 by rw [List.getD_eq_getElem?_getD, List.getElem?_eq_getElem hk]; rfl, hc]
      rfl
  have hoth : ∀ p A B (S : Nat → Prop), AdI F w w5 q g D i buf ao m cc xs p A → Only S A B → (∀ k, k < A.heap.size → S k → w5.heap.size ≤ k ∧ k < w5.heap.size + 2) → AdI F w w5 q g D i buf ao m cc xs p B := fun p A B S hA hO hS => hA.others hO hS HAC.out
  have HYS := Hid.mk hys
  clear hq2 hs5 hAC hys
  refine wpIn_range_stop (gf := 55) (lb := #[ptV (q + 1), ptV q]) rfl (enters_of Try.func55 (by kernel_rfl) rfl) ys.length (fun k => #[ptV (pl k)]) (fun _ => rfl)
    (fun k => AdI F w w5 q g D i buf ao m cc xs ((ys.take k).foldl (addStep i) ([], D.abs))) (fun _ => False)
    (fun k A B row hA hg hr => hoth _ A B (fun k => row = some k) hA ⟨hg.os, hg.tape, hg.output, hg.size, fun j hj hs => hg.block j hj (fun e => hs e.symm)⟩ (fun j _ hj => by have := hr j hj; omega)) (fun A B row hA _ _ => hA) HI0.out ?hit
    (fun k => { tmps := #[ptV g, .int .i64 buf, .slice ao m cc, undef, undef, undef, .int .i64 0, .int .i64 0, ptV (w.heap.size + 1), ptV (pl k), .slice ao m cc, ptV g, .func (.func 32) #[ptV g] #[], .bool false, ptV g, ptV g, .pointer (some ⟨g, 0, none⟩), .int .i64 i, .int .i64 buf, .agg #[.int .i64 i, .int .i64 buf, .map none, .slice none 0 0], ptV w.heap.size, ptV g, .slice ao m cc, openV q, ptV (pl k), undef, undef, undef, undef, undef, undef, undef, undef, undef, undef, undef, undef, undef, undef, undef, undef, undef, undef, undef, undef, undef, undef, undef, undef, undef, undef, undef, undef, undef, undef, undef, undef, undef, undef, undef], defers := [] }) ?assign ?body ?done ?stop
  case hit =>
    intro l J Jx W hJI hg hY h0
    have hlm : ((List.range m).filterMap P).length = ys.length := by rw [hfm]; simp
    have := open1_in 5 (by omega) l q g ao m cc xs (by have := HM.out; omega) P J Jx W ?_ ?_ ?_ h0
    · rw [hlm] at this; exact this
    · rw [blk_cell ((hg.block (q + 1) (by have := HS5.out; omega) (by simp)).trans HI0.out.o1)]; rfl
    · intro k A hJ
      have hA := hJI k A hJ
      obtain ⟨Dk, om, hgk, _, _, hpk, _⟩ := hA.st
      refine ⟨by rw [blk_cell hA.o0]; rfl, Dk.lm, hgk.cellsG.2.1, fun j hj _ => ?_⟩
      obtain ⟨a, ha, hca⟩ := hA.row.at j hj
      refine ⟨a, ha, hca, ?_⟩
      have hw : (Lit.int .i64 (xs.getD j 0)).wf = true := HWX.out j hj
      rw [hgk.lookC hw, hpk, hP]
    · intro k A hJ hk
      rw [hlm] at hk
      have := hY k A hJ hk
      rw [hfm]
      rw [hpl] at this
      exact this
  case assign =>
    intro l k W K hK
    generalize pl k = p at *
    gi_wp2
    exact hK
  case body =>
    rintro l k W hAd hk hW2
    obtain ⟨hyx, cy, hcy, hplk⟩ := hyin k hk
    obtain ⟨y, hy⟩ : ∃ y, y = ys.getD k 0 := ⟨_, rfl⟩
    rw [← hy] at hyx hcy
    obtain ⟨p, hp⟩ : ∃ p, p = (ys.take k).foldl (addStep i) ([], D.abs) := ⟨_, rfl⟩
    rw [← hp] at hAd
    obtain ⟨cb, hcb⟩ : ∃ cb, cb = cy.cb := ⟨_, rfl⟩
    rw [hplk, ← hcb]
    have hcbD : (D.ch y).map (·.cb) = some cb := by rw [hcy, hcb]; rfl
    have hyD : D.abs.ch y = some cy.dat := by show (D.ch y).map _ = _; rw [hcy]; rfl
    obtain ⟨hyr, _, _⟩ := HOK.out.chs y cy.dat hyD
    have hwy := wf_small hyr HOK.out.big
    have htk : (ys.take (k + 1)).foldl (addStep i) ([], D.abs) = addStep i p y := by
      rw [hp, List.take_add_one, List.foldl_append, hy, List.getD_eq_getElem?_getD, List.getElem?_eq_getElem hk]
      rfl
    have hAD : AdI F w w5 q g D i buf ao m cc xs p W.drew := hoth _ W W.drew (fun _ => False) hAd ((Only.refl _ W).drew) (fun _ _ h => h.elim)
    have hpl2 : p.1.length < 1000000 := HPB.out k p (by rw [hp, HYS.out])
    have HADD := Hid.mk (hAD.ins hW2 HAC.out hpl2 y hwy)
    have HCY : Hid (∀ A p', AdI F w w5 q g D i buf ao m cc xs p' A → A.cell? ⟨cb, 0, none⟩ = some (.int .i64 y)) := Hid.mk (fun A p' hA => by
      obtain ⟨Dk, om, hgk, _, _, hpk, _⟩ := hA.st
      have e := (hpk y).trans hcbD
      cases hh : Dk.ch y with
      | none => rw [hh] at e; cases e
      | some z =>
        rw [hh] at e
        have e2 : z.cb = cb := Option.some.inj e
        rw [← e2]
        exact (hgk.cellsC hh).1)
    have HA6 : Hid (∀ w6, AdI F w w5 q g D i buf ao m cc xs (insS y p.1, p.2) w6 → w6.cell? ⟨w.heap.size + 1, 0, none⟩ = some (ptV w.heap.size) ∧ w6.cell? ⟨cb, 0, none⟩ = some (.int .i64 y)) := Hid.mk (fun w6 h6 => ⟨by rw [blk_cell h6.b0]; rfl, HCY.out w6 _ h6⟩)
    have HS6 : Hid (W.drew.cell? ⟨w.heap.size + 1, 0, none⟩ = some (ptV w.heap.size) ∧ W.drew.cell? ⟨cb, 0, none⟩ = some (.int .i64 y)) := Hid.mk ⟨by rw [blk_cell hAD.b0]; rfl, HCY.out W.drew _ hAD⟩
    have HUN := Hid.mk hAD.un
    have HLY : Hid (∀ c, D.abs.ch y = some c → c.ab.length ≤ 900000) := Hid.mk (HLEN.out y)
    have HTK := Hid.mk htk
    have HCBD := Hid.mk hcbD
    by_cases hyp : y ∈ p.1
    · have HSTEP : Hid (addStep i p y = (insS y p.1, p.2)) := Hid.mk (by
        obtain ⟨_, om, _, _, _, _, _, hst, _⟩ := hAd.st
        unfold addStep
        rw [if_pos hyp, ins_same hst.1.1 hyp])
      rw [decide_eq_true hyp] at HADD
      clear hAd hAD hyx hcy hplk hyD hyr hwy htk hpl2 hp hy hcb hcbD hyp hW2
      gi_wp2
      refine round_region_held (S := fun W' => W'.cell? ⟨w.heap.size + 1, 0, none⟩ = some (ptV w.heap.size) ∧ W'.cell? ⟨cb, 0, none⟩ = some (.int .i64 y)) (by kernel_rfl) (by kernel_rfl) HS6.out (fun hH => ?_)
      change wpAnyH Try.prog Region.Mode.any _ _ _ 8 _ _ _
      refine takeH 0 25 (.pointer (some ⟨w.heap.size, 0, none⟩)) rfl (by kernel_rfl) (by kernel_rfl) (by kernel_rfl) (by kernel_rfl) (fun _ _ _ h => h) (by kernel_rfl) (fun w hw => by (try dsimp only at hw); go_simp) hH ?_
      simp only [List.setIfInBounds_toArray, List.set_cons_zero, List.set_cons_succ]
      refine takeH 1 26 (.pointer (some ⟨w.heap.size, 0, none⟩)) rfl (by kernel_rfl) (by kernel_rfl) (by kernel_rfl) (by kernel_rfl) (fun _ _ _ h => h) (by kernel_rfl) (fun w hw => by (try dsimp only at hw); go_simp) hH ?_
      simp only [List.setIfInBounds_toArray, List.set_cons_zero, List.set_cons_succ]
      refine takeH 2 27 (.pointer (some ⟨w.heap.size, 2, none⟩)) rfl (by kernel_rfl) (by kernel_rfl) (by kernel_rfl) (by kernel_rfl) (fun _ _ _ h => h) (by kernel_rfl) (fun w hw => by (try dsimp only at hw); go_simp) hH ?_
      simp only [List.setIfInBounds_toArray, List.set_cons_zero, List.set_cons_succ]
      refine takeH 3 28 (.pointer (some ⟨cb, 0, none⟩)) rfl (by kernel_rfl) (by kernel_rfl) (by kernel_rfl) (by kernel_rfl) (fun _ _ _ h => h) (by kernel_rfl) (fun w hw => by kernel_rfl) hH ?_
      simp only [List.setIfInBounds_toArray, List.set_cons_zero, List.set_cons_succ]
      refine takeH 4 29 (.pointer (some ⟨cb, 0, none⟩)) rfl (by kernel_rfl) (by kernel_rfl) (by kernel_rfl) (by kernel_rfl) (fun _ _ _ h => h) (by kernel_rfl) (fun w hw => by (try dsimp only at hw); go_simp) hH ?_
      simp only [List.setIfInBounds_toArray, List.set_cons_zero, List.set_cons_succ]
      refine takeH 5 30 (.pointer (some ⟨cb, 0, none⟩)) rfl (by kernel_rfl) (by kernel_rfl) (by kernel_rfl) (by kernel_rfl) (fun _ _ _ h => h) (by kernel_rfl) (fun w hw => by (try dsimp only at hw); go_simp) hH ?_
      simp only [List.setIfInBounds_toArray, List.set_cons_zero, List.set_cons_succ]
      refine takeH 6 31 (.int .i64 y) rfl (by kernel_rfl) (by kernel_rfl) (by kernel_rfl) (by kernel_rfl) (fun _ _ _ h => h) (by kernel_rfl) (fun w hw => by (try dsimp only at hw); go_simp) hH ?_
      simp only [List.setIfInBounds_toArray, List.set_cons_zero, List.set_cons_succ]
      refine stepH_call 7 32 rfl (by kernel_rfl) (by kernel_rfl) (by kernel_rfl) 47 #[.tmp 27, .tmp 31] #[64, 3] (by kernel_rfl) (enters_of Try.func47 (by kernel_rfl) rfl) #[.pointer (some ⟨w.heap.size, 2, none⟩), .int .i64 y] (by kernel_rfl) HADD.out ?_
      rintro e w6 ⟨rfl, ha6, hk6, hz6⟩
      have hH6 := HA6.out w6 ha6
      have HF6 := Hid.mk (And.intro ha6 (And.intro hk6 hz6))
      clear ha6 hk6 hz6
      refine ⟨_, rfl, hH6, ?_⟩
      simp only [List.setIfInBounds_toArray, List.set_cons_zero, List.set_cons_succ]
      refine wpAnyH_done (by kernel_rfl) ?_ _
      dsimp only [Norm]
      gi_wp2
      obtain ⟨a1, a2, a3⟩ := HF6.out
      have hfin : AdI F w w5 q g D i buf ao m cc xs ((ys.take (k + 1)).foldl (addStep i) ([], D.abs)) w6 := by rw [HTK.out, HSTEP.out]; exact a1
      first | exact ⟨a2.1, a2.2, .inl ⟨rfl, hfin⟩⟩ | exact ⟨a2.1, a2.2, hfin⟩
    · have HSTEP : Hid (addStep i p y = (insS y p.1, p.2.hang i y)) := Hid.mk (by unfold addStep; rw [if_neg hyp])
      have HUY : Hid (p.2.ch y = D.abs.ch y) := Hid.mk (HUN.out y hyp)
      rw [decide_eq_false hyp] at HADD
      have HW2' : Hid (w5.heap.size + 2 ≤ W.heap.size) := Hid.mk hW2
      clear hAd hAD hyx hcy hplk hyD hyr hwy htk hpl2 hp hy hcb hcbD hyp hW2
      gi_wp2
      refine round_region_held (S := fun W' => W'.cell? ⟨w.heap.size + 1, 0, none⟩ = some (ptV w.heap.size) ∧ W'.cell? ⟨cb, 0, none⟩ = some (.int .i64 y)) (by kernel_rfl) (by kernel_rfl) HS6.out (fun hH => ?_)
      change wpAnyH Try.prog Region.Mode.any _ _ _ 8 _ _ _
      refine takeH 0 25 (.pointer (some ⟨w.heap.size, 0, none⟩)) rfl (by kernel_rfl) (by kernel_rfl) (by kernel_rfl) (by kernel_rfl) (fun _ _ _ h => h) (by kernel_rfl) (fun w hw => by (try dsimp only at hw); go_simp) hH ?_
      simp only [List.setIfInBounds_toArray, List.set_cons_zero, List.set_cons_succ]
      refine takeH 1 26 (.pointer (some ⟨w.heap.size, 0, none⟩)) rfl (by kernel_rfl) (by kernel_rfl) (by kernel_rfl) (by kernel_rfl) (fun _ _ _ h => h) (by kernel_rfl) (fun w hw => by (try dsimp only at hw); go_simp) hH ?_
      simp only [List.setIfInBounds_toArray, List.set_cons_zero, List.set_cons_succ]
      refine takeH 2 27 (.pointer (some ⟨w.heap.size, 2, none⟩)) rfl (by kernel_rfl) (by kernel_rfl) (by kernel_rfl) (by kernel_rfl) (fun _ _ _ h => h) (by kernel_rfl) (fun w hw => by (try dsimp only at hw); go_simp) hH ?_
      simp only [List.setIfInBounds_toArray, List.set_cons_zero, List.set_cons_succ]
      refine takeH 3 28 (.pointer (some ⟨cb, 0, none⟩)) rfl (by kernel_rfl) (by kernel_rfl) (by kernel_rfl) (by kernel_rfl) (fun _ _ _ h => h) (by kernel_rfl) (fun w hw => by kernel_rfl) hH ?_
      simp only [List.setIfInBounds_toArray, List.set_cons_zero, List.set_cons_succ]
      refine takeH 4 29 (.pointer (some ⟨cb, 0, none⟩)) rfl (by kernel_rfl) (by kernel_rfl) (by kernel_rfl) (by kernel_rfl) (fun _ _ _ h => h) (by kernel_rfl) (fun w hw => by (try dsimp only at hw); go_simp) hH ?_
      simp only [List.setIfInBounds_toArray, List.set_cons_zero, List.set_cons_succ]
      refine takeH 5 30 (.pointer (some ⟨cb, 0, none⟩)) rfl (by kernel_rfl) (by kernel_rfl) (by kernel_rfl) (by kernel_rfl) (fun _ _ _ h => h) (by kernel_rfl) (fun w hw => by (try dsimp only at hw); go_simp) hH ?_
      simp only [List.setIfInBounds_toArray, List.set_cons_zero, List.set_cons_succ]
      refine takeH 6 31 (.int .i64 y) rfl (by kernel_rfl) (by kernel_rfl) (by kernel_rfl) (by kernel_rfl) (fun _ _ _ h => h) (by kernel_rfl) (fun w hw => by (try dsimp only at hw); go_simp) hH ?_
      simp only [List.setIfInBounds_toArray, List.set_cons_zero, List.set_cons_succ]
      refine stepH_call 7 32 rfl (by kernel_rfl) (by kernel_rfl) (by kernel_rfl) 47 #[.tmp 27, .tmp 31] #[64, 3] (by kernel_rfl) (enters_of Try.func47 (by kernel_rfl) rfl) #[.pointer (some ⟨w.heap.size, 2, none⟩), .int .i64 y] (by kernel_rfl) HADD.out ?_
      rintro e w6 ⟨rfl, ha6, hk6, hz6⟩
      have hH6 := HA6.out w6 ha6
      have HF6 := Hid.mk (And.intro ha6 (And.intro hk6 hz6))
      clear ha6 hk6 hz6
      refine ⟨_, rfl, hH6, ?_⟩
      simp only [List.setIfInBounds_toArray, List.set_cons_zero, List.set_cons_succ]
      refine wpAnyH_done (by kernel_rfl) ?_ _
      dsimp only [Norm]
      obtain ⟨a1, a2, a3⟩ := HF6.out
      have a1d : AdI F w w5 q g D i buf ao m cc xs (insS y p.1, p.2) w6.drew := hoth _ w6 w6.drew (fun _ => False) a1 ((Only.refl _ w6).drew) (fun _ _ h => h.elim)
      have hs6 : w5.heap.size + 2 ≤ w6.drew.heap.size := by
        have h1 := HW2'.out
        have h2 : W.drew.heap.size = W.heap.size := rfl
        have h3 : w6.drew.heap.size = w6.heap.size := rfl
        omega
      obtain ⟨av7, v7, W7, r1, r2, r3, r4, r5, r6, r7, r8, r9, r10, r11⟩ := a1d.hung hs6 HAC.out HCBD.out (mem_ins.2 (.inl rfl)) HUY.out HLY.out
      have HAV7 := Hid.mk r1
      have HSA7 := Hid.mk r2
      have HAP := Hid.mk r3
      have HSL7 := Hid.mk r4
      have HC7 := Hid.mk (And.intro r6 r5)
      obtain ⟨Dk, om, hgk, _, _, _, hch6, _⟩ := a1d.st
      have hb6 := a1d.b0
      have hlt6 : w.heap.size + 1 < w6.drew.heap.size := lt_of_block hb6
      have HS7 : Hid (w6.drew.cell? ⟨w.heap.size + 1, 0, none⟩ = some (ptV w.heap.size) ∧ w6.drew.cell? ⟨w.heap.size, 0, none⟩ = some (.int .i64 i)) := Hid.mk ⟨by rw [blk_cell hb6]; rfl, by rw [blk_cell hch6]; rfl⟩
      have HS7a : Hid ((w6.drew.alloc (.cells #[.int .i64 i] 3)).cell? ⟨w.heap.size + 1, 0, none⟩ = some (ptV w.heap.size) ∧ (w6.drew.alloc (.cells #[.int .i64 i] 3)).cell? ⟨w.heap.size, 0, none⟩ = some (.int .i64 i)) := Hid.mk ⟨(World.cell?_of_block (w := w6.drew) (Below.heap_alloc _ _ _ hlt6)).trans HS7.out.1, (World.cell?_of_block (w := w6.drew) (Below.heap_alloc _ _ _ (Nat.lt_of_succ_lt hlt6))).trans HS7.out.2⟩
      have hcblt : cb < w6.drew.heap.size := by
        rcases Nat.lt_or_ge cb w6.drew.heap.size with h' | h'
        · exact h'
        · simp [World.cell?, Array.getElem?_eq_none h'] at r1
      have HAV7a : Hid ((w6.drew.alloc (.cells #[.int .i64 i] 3)).cell? ⟨cb, 3, none⟩ = some av7) := Hid.mk ((World.cell?_of_block (w := w6.drew) (Below.heap_alloc _ _ _ hcblt)).trans r1)
      have HS7b : Hid (W7.cell? ⟨w.heap.size + 1, 0, none⟩ = some (ptV w.heap.size) ∧ W7.cell? ⟨w.heap.size, 0, none⟩ = some (.int .i64 i)) := Hid.mk ⟨(World.cell?_of_block (w := w6.drew) r7.1).trans HS7.out.1, (World.cell?_of_block (w := w6.drew) r7.2).trans HS7.out.2⟩
      have HS7c : Hid ((W7.setCell ⟨cb, 3, none⟩ v7).cell? ⟨w.heap.size + 1, 0, none⟩ = some (ptV w.heap.size) ∧ (W7.setCell ⟨cb, 3, none⟩ v7).cell? ⟨w.heap.size, 0, none⟩ = some (.int .i64 i)) := Hid.mk ⟨(World.cell?_of_block (w := W7) (set_other _ _ _ _ (fun e => r9 e.symm))).trans HS7b.out.1, (World.cell?_of_block (w := W7) (set_other _ _ _ _ (fun e => r8 e.symm))).trans HS7b.out.2⟩
      have HFIN : Hid (AdI F w w5 q g D i buf ao m cc xs ((ys.take (k + 1)).foldl (addStep i) ([], D.abs)) (W7.setCell ⟨cb, 3, none⟩ v7) ∧ (W7.setCell ⟨cb, 3, none⟩ v7).heap[w5.heap.size]? = W.heap[w5.heap.size]? ∧ (W7.setCell ⟨cb, 3, none⟩ v7).heap[w5.heap.size + 1]? = W.heap[w5.heap.size + 1]?) := Hid.mk ⟨by rw [HTK.out, HSTEP.out]; exact r10, r11.1.trans a2.1, r11.2.trans a2.2⟩
      clear a1 a2 a3 a1d hs6 r1 r2 r3 r4 r5 r6 r7 r8 r9 r10 r11 hgk hch6 hb6 hlt6 hcblt hH hH6 HS6 HA6 HADD HUN HLY HTK HCBD HSTEP HUY HF6 HCY
      gi_wp2
      refine round_region_held (S := fun W' => W'.cell? ⟨w.heap.size + 1, 0, none⟩ = some (ptV w.heap.size) ∧ W'.cell? ⟨w.heap.size, 0, none⟩ = some (.int .i64 i)) (by kernel_rfl) (by kernel_rfl) HS7.out (fun hH => ?_)
      change wpAnyH Try.prog Region.Mode.any _ _ _ 14 _ _ _
      refine takeH 0 33 (.pointer (some ⟨cb, 0, none⟩)) rfl (by kernel_rfl) (by kernel_rfl) (by kernel_rfl) (by kernel_rfl) (fun _ _ _ h => h) (by kernel_rfl) (fun w hw => by kernel_rfl) hH ?_
      simp only [List.setIfInBounds_toArray, List.set_cons_zero, List.set_cons_succ]
      refine takeH 1 34 (.pointer (some ⟨cb, 0, none⟩)) rfl (by kernel_rfl) (by kernel_rfl) (by kernel_rfl) (by kernel_rfl) (fun _ _ _ h => h) (by kernel_rfl) (fun w hw => by kernel_rfl) hH ?_
      simp only [List.setIfInBounds_toArray, List.set_cons_zero, List.set_cons_succ]
      refine takeH 2 35 (.pointer (some ⟨cb, 0, none⟩)) rfl (by kernel_rfl) (by kernel_rfl) (by kernel_rfl) (by kernel_rfl) (fun _ _ _ h => h) (by kernel_rfl) (fun w hw => by (try dsimp only at hw); go_simp) hH ?_
      simp only [List.setIfInBounds_toArray, List.set_cons_zero, List.set_cons_succ]
      refine takeH 3 36 (.pointer (some ⟨cb, 3, none⟩)) rfl (by kernel_rfl) (by kernel_rfl) (by kernel_rfl) (by kernel_rfl) (fun _ _ _ h => h) (by kernel_rfl) (fun w hw => by (try dsimp only at hw); go_simp) hH ?_
      simp only [List.setIfInBounds_toArray, List.set_cons_zero, List.set_cons_succ]
      refine takeH 5 38 (.pointer (some ⟨w.heap.size, 0, none⟩)) rfl (by kernel_rfl) (by kernel_rfl) (by kernel_rfl) (by kernel_rfl) (fun _ _ _ h => h) (by kernel_rfl) (fun w hw => by (try dsimp only at hw); go_simp) hH ?_
      simp only [List.setIfInBounds_toArray, List.set_cons_zero, List.set_cons_succ]
      refine takeH 6 39 (.pointer (some ⟨w.heap.size, 0, none⟩)) rfl (by kernel_rfl) (by kernel_rfl) (by kernel_rfl) (by kernel_rfl) (fun _ _ _ h => h) (by kernel_rfl) (fun w hw => by (try dsimp only at hw); go_simp) hH ?_
      simp only [List.setIfInBounds_toArray, List.set_cons_zero, List.set_cons_succ]
      refine takeH 7 40 (.pointer (some ⟨w.heap.size, 0, none⟩)) rfl (by kernel_rfl) (by kernel_rfl) (by kernel_rfl) (by kernel_rfl) (fun _ _ _ h => h) (by kernel_rfl) (fun w hw => by (try dsimp only at hw); go_simp) hH ?_
      simp only [List.setIfInBounds_toArray, List.set_cons_zero, List.set_cons_succ]
      refine takeH 8 41 (.int .i64 i) rfl (by kernel_rfl) (by kernel_rfl) (by kernel_rfl) (by kernel_rfl) (fun _ _ _ h => h) (by kernel_rfl) (fun w hw => by (try dsimp only at hw); go_simp) hH ?_
      simp only [List.setIfInBounds_toArray, List.set_cons_zero, List.set_cons_succ]
      refine stepH_two 4 9 (by kernel_rfl) ?_ ?_
      · refine opH_run 4 37 av7 w6.drew rfl (by kernel_rfl) (by kernel_rfl) (exec_loadV (p := .tmp 36) (by kernel_rfl) (by kernel_rfl) HSA7.out HAV7.out) hH ?_
        simp only [List.setIfInBounds_toArray, List.set_cons_zero, List.set_cons_succ]
        refine stepH_run 9 42 (.slice (some ⟨w6.drew.heap.size, 0, none⟩) 1 1) (w6.drew.alloc (.cells #[.int .i64 i] 3)) rfl (by kernel_rfl) (by kernel_rfl) (by kernel_rfl) (exec_one3 (x := .tmp 41) (by kernel_rfl) (by kernel_rfl)) HS7a.out ?_
        simp only [List.setIfInBounds_toArray, List.set_cons_zero, List.set_cons_succ]
        refine stepH_run 10 43 v7 W7 rfl (by kernel_rfl) (by kernel_rfl) (by kernel_rfl) (exec_append (s := .tmp 37) (x := .tmp 42) (by kernel_rfl) (by kernel_rfl) (by kernel_rfl) HAP.out) HS7b.out ?_
        simp only [List.setIfInBounds_toArray, List.set_cons_zero, List.set_cons_succ]
        refine takeH 11 44 (.pointer (some ⟨cb, 0, none⟩)) rfl (by kernel_rfl) (by kernel_rfl) (by kernel_rfl) (by kernel_rfl) (fun _ _ _ h => h) (by kernel_rfl) (fun w hw => by (try dsimp only at hw); go_simp) HS7b.out ?_
        simp only [List.setIfInBounds_toArray, List.set_cons_zero, List.set_cons_succ]
        refine takeH 12 45 (.pointer (some ⟨cb, 3, none⟩)) rfl (by kernel_rfl) (by kernel_rfl) (by kernel_rfl) (by kernel_rfl) (fun _ _ _ h => h) (by kernel_rfl) (fun w hw => by (try dsimp only at hw); go_simp) HS7b.out ?_
        simp only [List.setIfInBounds_toArray, List.set_cons_zero, List.set_cons_succ]
        refine stepH_one 13 (by kernel_rfl) (opH_store 13 (W7.setCell ⟨cb, 3, none⟩ v7) rfl (by kernel_rfl) (by kernel_rfl) (exec_storeV (p := .tmp 45) (x := .tmp 43) (by kernel_rfl) (by kernel_rfl) (by kernel_rfl) HSL7.out HC7.out.1 HC7.out.2) HS7c.out ?_)
        refine wpAnyH_done (by kernel_rfl) ?_ _
        dsimp only [Norm]
        gi_wp2
        first | exact ⟨HFIN.out.2.1, HFIN.out.2.2, .inl ⟨rfl, HFIN.out.1⟩⟩ | exact ⟨HFIN.out.2.1, HFIN.out.2.2, HFIN.out.1⟩
      · refine opH_run 9 42 (.slice (some ⟨w6.drew.heap.size, 0, none⟩) 1 1) (w6.drew.alloc (.cells #[.int .i64 i] 3)) rfl (by kernel_rfl) (by kernel_rfl) (exec_one3 (x := .tmp 41) (by kernel_rfl) (by kernel_rfl)) HS7a.out ?_
        simp only [List.setIfInBounds_toArray, List.set_cons_zero, List.set_cons_succ]
        refine stepH_run 4 37 av7 (w6.drew.alloc (.cells #[.int .i64 i] 3)) rfl (by kernel_rfl) (by kernel_rfl) (by kernel_rfl) (exec_loadV (p := .tmp 36) (by kernel_rfl) (by kernel_rfl) HSA7.out HAV7a.out) HS7a.out ?_
        simp only [List.setIfInBounds_toArray, List.set_cons_zero, List.set_cons_succ]
        refine stepH_run 10 43 v7 W7 rfl (by kernel_rfl) (by kernel_rfl) (by kernel_rfl) (exec_append (s := .tmp 37) (x := .tmp 42) (by kernel_rfl) (by kernel_rfl) (by kernel_rfl) HAP.out) HS7b.out ?_
        simp only [List.setIfInBounds_toArray, List.set_cons_zero, List.set_cons_succ]
        refine takeH 11 44 (.pointer (some ⟨cb, 0, none⟩)) rfl (by kernel_rfl) (by kernel_rfl) (by kernel_rfl) (by kernel_rfl) (fun _ _ _ h => h) (by kernel_rfl) (fun w hw => by (try dsimp only at hw); go_simp) HS7b.out ?_
        simp only [List.setIfInBounds_toArray, List.set_cons_zero, List.set_cons_succ]
        refine takeH 12 45 (.pointer (some ⟨cb, 3, none⟩)) rfl (by kernel_rfl) (by kernel_rfl) (by kernel_rfl) (by kernel_rfl) (fun _ _ _ h => h) (by kernel_rfl) (fun w hw => by (try dsimp only at hw); go_simp) HS7b.out ?_
        simp only [List.setIfInBounds_toArray, List.set_cons_zero, List.set_cons_succ]
        refine stepH_one 13 (by kernel_rfl) (opH_store 13 (W7.setCell ⟨cb, 3, none⟩ v7) rfl (by kernel_rfl) (by kernel_rfl) (exec_storeV (p := .tmp 45) (x := .tmp 43) (by kernel_rfl) (by kernel_rfl) (by kernel_rfl) HSL7.out HC7.out.1 HC7.out.2) HS7c.out ?_)
        refine wpAnyH_done (by kernel_rfl) ?_ _
        dsimp only [Norm]
        gi_wp2
        first | exact ⟨HFIN.out.2.1, HFIN.out.2.2, .inl ⟨rfl, HFIN.out.1⟩⟩ | exact ⟨HFIN.out.2.1, HFIN.out.2.2, HFIN.out.1⟩
  case done =>
    rintro D9 W9 hD9 hAd hKD
    subst hD9
    rw [List.take_length] at hAd
    obtain ⟨p, hp⟩ : ∃ p, p = ys.foldl (addStep i) ([], D.abs) := ⟨_, rfl⟩
    rw [← hp] at hAd
    obtain ⟨Dk, om, hgk, hZ, hokk, hplc, hch, hst, hom⟩ := hAd.st
    obtain ⟨f, hf⟩ : ∃ f, p.2 = { D.abs with ch := f } := by rw [hp]; exact addStep_rest i ys D.abs
    have hab : Dk.abs = { D.abs with ch := f } := hZ.trans hf
    have e1 : Dk.added = D.added := congrArg Ga.added hab
    have e2 : Dk.nl = D.nl := congrArg Ga.nl hab
    have e3 : Dk.nb = D.nb := congrArg Ga.nb hab
    have e4 : Dk.lm.isSome = D.lm.isSome := congrArg Ga.ml hab
    have e5 : Dk.bm.isSome = D.bm.isSome := congrArg Ga.mb hab
    have hq2 := HQ2.out
    have hs5 := HS5.out
    have hlt5 := lt_of_block hKD
    have hblk : W9.heap[g]? = some _ := hgk.cont .g
    obtain ⟨g0, _, _, gf⟩ := hgk.cellsG
    rw [e1, ← HI.out] at g0
    have gf0 := gf 0
    obtain ⟨W10, hW10⟩ : ∃ W10, W10 = W9.setCell ⟨g, 0, none⟩ (.int .i64 (i + 1)) := ⟨_, rfl⟩
    have hO10 : Only (fun k => k = g) W9 W10 := by rw [hW10]; exact (Only.refl (fun k => k = g) W9).setCell (p := ⟨g, 0, none⟩) (.inl rfl) _
    have hgF := hgk.own .g g rfl
    have hgne : ∀ k, w.heap.size ≤ k → k < w5.heap.size + 2 → k ≠ g := fun k h1 h2 e => by
      rcases hgF.1 with h' | h'
      · have := h'.2; omega
      · omega
    have hg10 : GrAt (fun k => (F k ∧ k < w.heap.size) ∨ w5.heap.size + 2 ≤ k) W10 g { Dk with added := D.added + 1 } := hgk.counted hO10 (by
      rw [hW10, blk_set hblk]
      have : i + 1 = ((D.added + 1 : Nat) : Int) := by rw [HI.out]; omega
      rw [this]
      rfl)
    obtain ⟨D10, hD10⟩ : ∃ D10 : Gd, D10 = { Dk with added := D.added + 1 } := ⟨_, rfl⟩
    rw [← hD10] at hg10
    obtain ⟨c10, hc10⟩ : ∃ c : Cx, c = ⟨buf, p.1, [], w.heap.size, om, .slice none 0 0⟩ := ⟨_, rfl⟩
    have hs10 : W9.heap.size ≤ W10.heap.size := hO10.size
    have hown10 : ∀ n k, Own g D10 n k → Own g Dk n k := by
      intro n k hk
      rw [hD10] at hk
      cases n <;> exact hk
    have hnotB : ∀ k, chB c10 k → k < W10.heap.size ∧ ¬ OwnA g D10 k := by
      rintro k (e | e | e)
      · rw [hc10] at e
        have e' : w.heap.size = k := e
        refine ⟨by omega, ?_⟩
        rintro ⟨n, hn⟩
        rcases (hgk.own n k (hown10 n k hn)).1 with h' | h'
        · have := h'.2; omega
        · omega
      · rw [hc10] at e
        have e' : om = some k := e
        have h7 := hom k e'
        refine ⟨by omega, ?_⟩
        rintro ⟨n, hn⟩
        exact h7.2.2 n (hown10 n k hn)
      · rw [hc10] at e
        cases e
    have hkeep10 : ∀ k, chB c10 k → W10.heap[k]? = W9.heap[k]? := fun k hk => hO10.block k (by
      rcases hk with e | e | e
      · rw [hc10] at e; have e' : w.heap.size = k := e; omega
      · rw [hc10] at e; exact (hom k e).2.1
      · rw [hc10] at e; cases e) (fun e => by
      have := (hnotB k hk).2
      exact this ⟨.g, e⟩)
    have hDi : D.ch i = none := by
      cases hc : D.ch i with
      | none => rfl
      | some c =>
        have := (HOK.out.chs i c.dat (by show (D.ch i).map _ = _; rw [hc]; rfl)).1
        have h9 := HI.out
        have : D.abs.added = D.added := rfl
        omega
    have hDki : D10.ch i = none := by
      have e := hplc i
      rw [hDi] at e
      rw [hD10]
      show Dk.ch i = none
      cases hc : Dk.ch i with
      | none => rfl
      | some c => rw [hc] at e; cases e
    have hwi : (Lit.int .i64 i).wf = true := wf_small (n := 900000) ⟨by rw [HI.out]; omega, by rw [HI.out]; omega⟩ (by omega)
    have HKEEP := Hid.mk (keep_any (i := i) (c := c10) hg10.tight hDki (by rw [hD10]; show Dk.lm.isSome = Dk.bm.isSome; rw [e4, e5]; exact hmm) hnotB
      (by rw [hkeep10 _ (.inl rfl), hc10]; exact hch) (by rw [hc10]; exact hst.kept (fun b hb => hkeep10 b (by rw [hc10]; exact .inr (.inl hb)))) (by rw [hc10]; exact World.ownsRow_nil _ _ _ _)
      (fun k h1 h2 => by rw [hc10] at h1 h2; have h1' : w.heap.size = k := h1; have := (hom k h2).1; omega) (fun k _ h2 => by rw [hc10] at h2; cases h2) (fun k _ h2 => by rw [hc10] at h2; cases h2) hwi (by rw [hc10]; exact hwb)
      (by rw [hD10]; show Dk.nl < _; omega) (by rw [hD10]; show Dk.nb < _; omega) (fun x hx => by
        have hx' : Dk.bf c10.buf = some x := by rw [hD10] at hx; exact hx
        have hd : Dk.abs.bf c10.buf = some x.dat := by show (Dk.bf _).map _ = _; rw [hx']; rfl
        have l1 := rise_len (hgk.cont (.nx c10.buf) x hx').1.1 (hokk.nxs c10.buf x.dat hd).1
        have l2 := rise_len (hgk.cont (.bl c10.buf) x hx').1.1 (hokk.nxs c10.buf x.dat hd).2
        have := hokk.big
        exact ⟨by omega, by omega⟩))
    have hcc : c10.cb = w.heap.size := by rw [hc10]
    rw [hcc] at HKEEP
    have b0 := hAd.b0
    have HB0 : Hid (W10.cell? ⟨w.heap.size + 1, 0, none⟩ = some (ptV w.heap.size)) := Hid.mk (by rw [World.cell?_of_block (w := W9) (hO10.block (w.heap.size + 1) (by omega) (hgne (w.heap.size + 1) (by omega) (by omega))), blk_cell b0]; rfl)
    have b10 : (W9.setCell ⟨g, 0, none⟩ (.int .i64 (i + 1))).cell? ⟨w.heap.size + 1, 0, none⟩ = some (ptV w.heap.size) := by rw [← hW10]; exact HB0.out
    have b9 : W9.cell? ⟨w.heap.size + 1, 0, none⟩ = some (ptV w.heap.size) := by rw [blk_cell b0]; rfl
    have hgn1 : g ≠ w.heap.size + 1 := fun e => hgne (w.heap.size + 1) (by omega) (by omega) e.symm
    have hgn2 : ¬ w.heap.size + 1 = g := fun e => hgn1 e.symm
    have u1 : IntKind.i64.wrap (i + 1) = i + 1 := by have := HI.out; rw [IntKind.wrap_i64]; omega
    have HFN : Hid (∀ w11 D', GrAt (fun k => Grown (OwnA g D10) W10 k ∨ chB c10 k) w11 g D' → D'.abs = D10.abs.keep i c10.dat → Only (OwnA g D10) W10 w11 → (w11.cell? ⟨w.heap.size + 1, 0, none⟩ = some (ptV w.heap.size) ∧ w11.cell? ⟨w.heap.size, 0, none⟩ = some (.int .i64 i)) ∧ w11.heap[w5.heap.size]? = some (.deferred (some [])) ∧ GrAt (Grown F w) (w11.putObj w5.heap.size (.deferred none)) g D' ∧ D'.abs = D.abs.add buf xs ∧ Only F w (w11.putObj w5.heap.size (.deferred none))) := Hid.mk (fun w11 D' hg11 ha11 ho11 => by
      have ownF : ∀ k, OwnA g D10 k → (F k ∧ k < w.heap.size) ∨ w5.heap.size + 2 ≤ k := fun k hk => by
        obtain ⟨n, hn⟩ := hk
        exact (hgk.own n k (hown10 n k hn)).1
      have nown : ∀ k, w.heap.size ≤ k → k < w5.heap.size + 2 → ¬ OwnA g D10 k := fun k h1 h2 hk => by
        rcases ownF k hk with h' | h'
        · have := h'.2; omega
        · omega
      have k1 : ∀ k, w.heap.size ≤ k → k ≤ w5.heap.size → w11.heap[k]? = W9.heap[k]? := fun k h1 h2 => (ho11.block k (by omega) (nown k h1 (by omega))).trans (hO10.block k (by omega) (hgne k h1 (by omega)))
      have t1 : w11.heap[w5.heap.size]? = some (.deferred (some [])) := (k1 w5.heap.size (by omega) (Nat.le_refl _)).trans hKD
      have hgp := grownBy_putObj' w11 w5.heap.size (.deferred none)
      have t2 : Only (fun k => k = w5.heap.size) w11 (w11.putObj w5.heap.size (.deferred none)) := ⟨hgp.os, hgp.tape, hgp.output, hgp.size, fun j hj hs => hgp.block j hj (fun e => hs (by cases e; rfl))⟩
      have fin : ∀ k, (Grown (OwnA g D10) W10 k ∨ chB c10 k) → Grown F w k ∧ k ≠ w5.heap.size := by
        rintro k ((hk | hk) | hk)
        · rcases ownF k hk with h' | h'
          · exact ⟨.inl h'.1, by have := h'.2; omega⟩
          · exact ⟨.inr (by omega), by omega⟩
        · exact ⟨.inr (by omega), by omega⟩
        · rcases hk with e | e | e
          · rw [hc10] at e
            have e' : w.heap.size = k := e
            exact ⟨.inr (by omega), by omega⟩
          · rw [hc10] at e
            have h7 := hom k e
            exact ⟨.inr (by omega), by omega⟩
          · rw [hc10] at e; cases e
      refine ⟨⟨?_, ?_⟩, t1, (hg11.only t2 (fun k hk _ => (fin k hk).2)).mono (fun k _ hk => (fin k hk).1), ?_, ?_⟩
      · rw [World.cell?_of_block (w := W9) (k1 (w.heap.size + 1) (by omega) (by omega)), blk_cell b0]; rfl
      · rw [World.cell?_of_block (w := W9) (k1 w.heap.size (Nat.le_refl _) (by omega)), blk_cell hch]; rfl
      · rw [ha11]
        unfold Ga.add
        have hd10 : D10.abs = { p.2 with added := D.abs.added + 1 } := by
          rw [hD10, ← hZ]
          rfl
        have hi2 : ((D.abs.added : Nat) : Int) = i := HI.out.symm
        rw [hi2, ← HYS.out, ← hp, hd10, hc10]
        rfl
      · refine ((hAd.on.trans hO10 (fun k hk => ?_)).trans ho11 (fun k hk => ?_)).trans t2 (fun k hk => .inr (by omega))
        · subst hk
          rcases hgF.1 with h' | h'
          · exact .inl h'.1
          · exact .inr (by omega)
        · rcases ownF k hk with h' | h'
          · exact .inl h'.1
          · exact .inr (by omega))
    have HW10 := Hid.mk hW10
    clear hAd hKD hgk hZ hokk hplc hch hst hom hf hab e1 e2 e3 e4 e5 hblk hO10 hgF hgne hg10 hc10 hs10 hown10 hnotB hkeep10 hDi hDki hwi b0 hW10 hD10 hp hcc gf hq2 hs5 hlt5
    gi_wp2_with (first
      | (refine ⟨trivial, ?_⟩; gi_at_call 43; rw [← HW10.out]; refine (callsIn_wide.2 HKEEP.out).mono ?_; rintro e w11 ⟨rfl, D', hg11, ha11, _, ho11⟩; obtain ⟨⟨z1, z2⟩, z3, z4⟩ := HFN.out w11 D' hg11 ha11 ho11; have HZ3 := Hid.mk z3; have HZ4 := Hid.mk z4; clear z3 z4 hg11 ha11 ho11))
    refine ⟨by simp, .inl ⟨_, _, rfl, run_takeDeferred HZ3.out, ?_⟩⟩
    refine ⟨_, results_tmp2 rfl _ _ _, ?_, D', HZ4.out.1, HZ4.out.2.1, HZ4.out.2.2⟩
    rw [← HI.out]
    rfl
  case stop =>
    rintro D9 W9 _ hX
    exact hX.elim
end
end Go.Proofs.Ythmbhcmicebcpaa
