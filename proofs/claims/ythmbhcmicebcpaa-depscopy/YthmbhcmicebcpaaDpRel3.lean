/-
  A graph as the document has it, and the program's beside it.
-/
import Derived.Test.YthmbhcmicebcpaaLayRel
namespace Go.Proofs.Ythmbhcmicebcpaa
open Go Go.Proofs Go.RowKit Go.Shelf
/-- Changes by number: their buffer, what they hang on, whether they are done. -/
structure Gp where
  n : Nat
  buf : Int → Int
  on : Int → List Int
  dn : Int → Bool
def und (G : Gp) (i : Int) : Prop := (0 ≤ i ∧ i < G.n) ∧ G.dn i = false
def hng (G : Gp) (y x : Int) : Prop := x ∈ G.on y ∧ und G x
def mayP (G : Gp) (i : Int) : Prop := und G i ∧ ∀ x, ¬ hng G i x
def cnt (G : Gp) : Nat := ((List.range G.n).filter (fun j => !G.dn ((j : Nat) : Int))).length
structure Gp.Ok (G : Gp) : Prop where
  dag : ∀ (i x : Int), 0 ≤ i ∧ i < G.n → x ∈ G.on i → 0 ≤ x ∧ x < i
  wf : ∀ i : Int, 0 ≤ i ∧ i < G.n → (Lit.int .i64 (G.buf i)).wf = true
structure Rel (G : Gp) (A : Ga) : Prop where
  h : RelH G.n G.buf (und G) (hng G) (fun _ => False) A
  ad : A.added = G.n
  nl : A.nl = cnt G
  nb : A.nb ≤ G.n
  mm : A.ml = A.mb
  mb : A.mb = decide (0 < G.n)
def Gp.none : Gp := ⟨0, fun _ => 0, fun _ => [], fun _ => false⟩
noncomputable def Gp.fin (G : Gp) (i : Int) : Gp := { G with dn := fun j => if j = i then true else G.dn j }
noncomputable def Gp.add (G : Gp) (b : Int) (xs : List Int) : Gp := ⟨G.n + 1, fun j => if j = (G.n : Int) then b else G.buf j, fun j => if j = (G.n : Int) then xs else G.on j, fun j => if j = (G.n : Int) then false else G.dn j⟩
noncomputable def Gp.fins (G : Gp) (S : List Int) : Gp := S.foldl Gp.fin G
theorem relh_congr {n n' : Nat} {buf buf' : Int → Int} {U U' : Int → Prop} {H H' : Int → Int → Prop} {E : Int → Prop} {A : Ga} (h : RelH n buf U H E A) (e0 : n = n') (e1 : ∀ i, U i → buf i = buf' i) (e2 : ∀ i, U i ↔ U' i) (e3 : ∀ i x, U i → (H i x ↔ H' i x)) : RelH n' buf' U' H' E A := by
  subst e0
  refine ⟨fun i q => h.uu i ((e2 i).2 q), fun i => (h.ch i).trans (e2 i), fun i c q => (h.cb i c q).trans (e1 i (h.of q)), fun i c q => ⟨(h.on i c q).1, fun x => ((h.on i c q).2 x).trans (e3 i x (h.of q))⟩, fun i c q => ⟨(h.ab i c q).1, fun y => ((h.ab i c q).2 y).trans ⟨fun r => ⟨(e2 y).1 r.1, (e3 y i r.1).1 r.2⟩, fun r => ⟨(e2 y).2 r.1, (e3 y i ((e2 y).2 r.1)).2 r.2⟩⟩⟩, fun i q => ?_, fun b x q => ⟨(h.nx b x q).1, fun i => ((h.nx b x q).2 i).trans ?_⟩, fun b x q => ⟨(h.bl b x q).1, fun i => ((h.bl b x q).2 i).trans ?_⟩, h.ne⟩
  · rw [← e1 i ((e2 i).2 q)]; exact h.bf i ((e2 i).2 q)
  · constructor
    · rintro ⟨r1, r2, r3⟩
      exact ⟨(e2 i).1 r1, by rw [← e1 i r1]; exact r2, fun z hz => r3 z ((e3 i z r1).2 hz)⟩
    · rintro ⟨r1, r2, r3⟩
      have r1' := (e2 i).2 r1
      exact ⟨r1', by rw [e1 i r1']; exact r2, fun z hz => r3 z ((e3 i z r1').1 hz)⟩
  · constructor
    · rintro ⟨r1, r2, z, hz⟩
      exact ⟨(e2 i).1 r1, by rw [← e1 i r1]; exact r2, z, (e3 i z r1).1 hz⟩
    · rintro ⟨r1, r2, z, hz⟩
      have r1' := (e2 i).2 r1
      exact ⟨r1', by rw [e1 i r1']; exact r2, z, (e3 i z r1').2 hz⟩
theorem rel_none : Rel Gp.none newD.abs := by
  have hu : ∀ i, ¬ und Gp.none i := fun i q => by have : i < ((0 : Nat) : Int) := q.1.2; have := q.1.1; omega
  refine ⟨⟨fun i q => absurd q (hu i), fun i => ⟨fun q => ?_, fun q => absurd q (hu i)⟩, fun i c q => ?_, fun i c q => ?_, fun i c q => ?_, fun i q => absurd q (hu i), fun i c q => ?_, fun i c q => ?_, fun i c q => ?_⟩, rfl, rfl, Nat.le_refl _, rfl, rfl⟩ <;> (first | cases q | (exfalso; revert q; simp [newD, Gd.abs]))
theorem und_fin {G : Gp} {i j : Int} : und (G.fin i) j ↔ und G j ∧ j ≠ i := by
  unfold und Gp.fin
  simp only
  by_cases e : j = i
  · simp [e]
  · simp [e]
theorem filt_len (n : Nat) (f g : Nat → Bool) (k : Nat) (hk : k < n) (h1 : f k = true) (h2 : g k = false) (h3 : ∀ j, j ≠ k → g j = f j) : ((List.range n).filter g).length = ((List.range n).filter f).length - 1 := by
  induction n with
  | zero => omega
  | succ n ih =>
    rw [List.range_succ, List.filter_append, List.filter_append, List.length_append, List.length_append]
    by_cases e : k = n
    · subst e
      have e1 : (List.range k).filter g = (List.range k).filter f := List.filter_congr (fun j hj => h3 j (by have := List.mem_range.1 hj; omega))
      rw [e1]
      simp [h1, h2]
    · have hpos : 0 < ((List.range n).filter f).length := List.length_pos_of_mem (List.mem_filter.2 ⟨List.mem_range.2 (by omega : k < n), h1⟩)
      rw [ih (by omega)]
      have : ([n].filter g).length = ([n].filter f).length := by simp [List.filter_cons, h3 n (fun q => e q.symm)]
      rw [this]
      omega
theorem cnt_fin {G : Gp} {i : Int} (hi : und G i) : cnt (G.fin i) = cnt G - 1 := by
  obtain ⟨k, rfl⟩ : ∃ k : Nat, i = k := ⟨i.toNat, by have := hi.1.1; omega⟩
  refine filt_len G.n _ _ k (by have := hi.1.2; omega) (by simp [hi.2]) (by unfold Gp.fin; simp) (fun j hj => ?_)
  unfold Gp.fin
  simp only
  rw [if_neg (by omega)]
theorem rel_fin {G : Gp} {A : Ga} (h : Rel G A) {i : Int} (hi : mayP G i) : Rel (G.fin i) (A.finish i) := by
  obtain ⟨a1, a2, a3, a4, a5, a6⟩ := rel_finish h.h hi.1 hi.2
  refine ⟨relh_congr a1 rfl (fun _ _ => rfl) (fun j => und_fin.symm) (fun j x _ => ?_), a4.trans h.ad, by rw [a2, h.nl, cnt_fin hi.1], Nat.le_trans a3 h.nb, by rw [a5, a6]; exact h.mm, a6.trans h.mb⟩
  unfold hng
  rw [und_fin]
  exact ⟨fun r => ⟨r.1.1, r.1.2, r.2⟩, fun r => ⟨⟨r.1, r.2.1⟩, r.2.2⟩⟩
theorem und_add {G : Gp} {b : Int} {xs : List Int} {j : Int} : und (G.add b xs) j ↔ und G j ∨ j = (G.n : Int) := by
  unfold und Gp.add
  simp only
  by_cases e : j = (G.n : Int)
  · subst e
    simp
    omega
  · simp only [e, if_false, or_false]
    exact ⟨fun r => ⟨⟨r.1.1, by have := r.1.2; omega⟩, r.2⟩, fun r => ⟨⟨r.1.1, by have := r.1.2; omega⟩, r.2⟩⟩
theorem cnt_add (G : Gp) (b : Int) (xs : List Int) : cnt (G.add b xs) = cnt G + 1 := by
  have e1 : cnt (G.add b xs) = ((List.range (G.n + 1)).filter (fun j => !(if ((j : Nat) : Int) = (G.n : Int) then false else G.dn ((j : Nat) : Int)))).length := rfl
  rw [e1, List.range_succ, List.filter_append, List.length_append]
  have e2 : (List.range G.n).filter (fun j => !(if ((j : Nat) : Int) = (G.n : Int) then false else G.dn ((j : Nat) : Int))) = (List.range G.n).filter (fun j => !G.dn ((j : Nat) : Int)) := List.filter_congr (fun j hj => by
    have := List.mem_range.1 hj
    rw [if_neg (by omega)])
  rw [e2]
  simp [cnt]
theorem rel_add' {G : Gp} {A : Ga} (h : Rel G A) (hG : G.Ok) (b : Int) (xs : List Int) (hx : ∀ x ∈ xs, 0 ≤ x ∧ x < (G.n : Int)) : Rel (G.add b xs) (A.add b xs) := by
  obtain ⟨a1, a2, a3, a4, a5, a6⟩ := rel_add h.h h.ad b xs (fun j x hj hh => by have := hh.2.1.2; omega)
  refine ⟨relh_congr a1 rfl (fun _ _ => rfl) (fun j => und_add.symm) (fun j x hj => ?_), a4, by rw [a2, h.nl, cnt_add], by have := h.nb; show _ ≤ G.n + 1; omega, by rw [a5, a6], by rw [a6]; exact (decide_eq_true (Nat.succ_pos _)).symm⟩
  unfold hng
  rw [und_add]
  by_cases e : j = (G.n : Int)
  · subst e
    have e2 : (G.add b xs).on (G.n : Int) = xs := if_pos rfl
    rw [e2]
    simp only [ne_eq, not_true_eq_false, false_and, false_or, true_and]
    exact ⟨fun r => ⟨r.1, .inl r.2⟩, fun r => ⟨r.1, r.2.elim (fun q => q) (fun q => by have := (hx x r.1).2; omega)⟩⟩
  · have e2 : (G.add b xs).on j = G.on j := if_neg e
    rw [e2]
    simp only [e, ne_eq, not_false_eq_true, true_and, false_and, or_false]
    have hj' : und G j := hj.elim (fun q => q) (fun q => absurd q e)
    exact ⟨fun r => ⟨r.1, .inl r.2⟩, fun r => ⟨r.1, r.2.elim (fun q => q) (fun q => by have := (hG.dag j x hj'.1 r.1).2; have := hj'.1.2; omega)⟩⟩
theorem ok_add {G : Gp} (hG : G.Ok) {b : Int} (hb : (Lit.int .i64 b).wf = true) {xs : List Int} (hx : ∀ x ∈ xs, 0 ≤ x ∧ x < (G.n : Int)) : (G.add b xs).Ok := by
  refine ⟨fun i x hi hm => ?_, fun i hi => ?_⟩
  · by_cases e : i = (G.n : Int)
    · subst e
      have e2 : (G.add b xs).on (G.n : Int) = xs := if_pos rfl
      rw [e2] at hm
      exact hx x hm
    · have e2 : (G.add b xs).on i = G.on i := if_neg e
      rw [e2] at hm
      exact hG.dag i x ⟨hi.1, by have : i < ((G.n + 1 : Nat) : Int) := hi.2; omega⟩ hm
  · by_cases e : i = (G.n : Int)
    · have e2 : (G.add b xs).buf i = b := if_pos e
      rw [e2]; exact hb
    · have e2 : (G.add b xs).buf i = G.buf i := if_neg e
      rw [e2]
      exact hG.wf i ⟨hi.1, by have : i < ((G.n + 1 : Nat) : Int) := hi.2; omega⟩
theorem ok_fin {G : Gp} (hG : G.Ok) (i : Int) : (G.fin i).Ok := ⟨hG.dag, hG.wf⟩
/-! ### What the program's contracts lean on -/
theorem rel_ok {G : Gp} {A : Ga} (h : Rel G A) (hG : G.Ok) (hn : G.n ≤ 900000) : A.Ok := by
  refine ⟨by rw [h.ad]; exact hn, fun i c q => ?_, fun b x q => ?_⟩
  · have hu := h.h.of q
    rw [h.ad, h.h.cb i c q]
    exact ⟨hu.1, hG.wf i hu.1, h.h.bf i hu⟩
  · rw [h.ad]
    exact ⟨fun y hy => (((h.h.nx b x q).2 y).1 hy).1.1, fun y hy => (((h.h.bl b x q).2 y).1 hy).1.1⟩
theorem cnt_le (G : Gp) : cnt G ≤ G.n := by
  have := List.length_filter_le (fun j : Nat => !G.dn ((j : Nat) : Int)) (List.range G.n)
  rw [List.length_range] at this
  exact this
theorem rel_fit {G : Gp} {A : Ga} (h : Rel G A) (hG : G.Ok) (hn : G.n < 900000) : A.Fit := by
  refine ⟨rel_ok h hG (by omega), h.mm, by rw [h.nl]; have := cnt_le G; omega, by have := h.nb; omega, by rw [h.ad]; exact hn, fun y c q => ?_⟩
  have := rise_len (h.h.ab y c q).1 (fun z hz => (((h.h.ab y c q).2 z).1 hz).1.1)
  omega
theorem may_fin {G : Gp} {i j : Int} (hi : mayP G i) (ne : i ≠ j) : mayP (G.fin j) i := by
  refine ⟨und_fin.2 ⟨hi.1, ne⟩, fun x q => ?_⟩
  exact hi.2 x ⟨q.1, (und_fin.1 q.2).1⟩
theorem rel_fins (S : List Int) : ∀ {G : Gp} {A : Ga}, Rel G A → S.Nodup → (∀ i ∈ S, mayP G i) → Rel (G.fins S) (A.fins S) := by
  induction S with
  | nil => intro G A h _ _; exact h
  | cons i r ih =>
    intro G A h hn hm
    have hn' := List.nodup_cons.1 hn
    exact ih (rel_fin h (hm i (by simp))) hn'.2 (fun j hj => may_fin (hm j (by simp [hj])) (fun e => hn'.1 (e ▸ hj)))
theorem und_fins (S : List Int) : ∀ {G : Gp} {j : Int}, und (G.fins S) j ↔ und G j ∧ j ∉ S := by
  induction S with
  | nil => intro G j; simp [Gp.fins]
  | cons i r ih =>
    intro G j
    show und ((G.fin i).fins r) j ↔ _
    rw [ih, und_fin]
    simp only [List.mem_cons, not_or]
    exact ⟨fun q => ⟨q.1.1, q.1.2, q.2⟩, fun q => ⟨⟨q.1, q.2.1⟩, q.2.2⟩⟩
theorem fins_same (S : List Int) : ∀ {G : Gp}, (G.fins S).n = G.n ∧ (G.fins S).buf = G.buf ∧ (G.fins S).on = G.on := by
  induction S with
  | nil => intro G; exact ⟨rfl, rfl, rfl⟩
  | cons i r ih => intro G; exact ih (G := G.fin i)
theorem ok_fins {G : Gp} (hG : G.Ok) (S : List Int) : (G.fins S).Ok := by
  obtain ⟨e1, e2, e3⟩ := fins_same S (G := G)
  exact ⟨by rw [e1, e3]; exact hG.dag, by rw [e1, e2]; exact hG.wf⟩
/-- What a write of a buffer brings. -/
def nxL (A : Ga) (b : Int) : List Int := ((A.bf b).map (·.nx)).getD []
def blL (A : Ga) (b : Int) : List Int := ((A.bf b).map (·.bl)).getD []
theorem nx_pw {G : Gp} {A : Ga} (h : Rel G A) (b : Int) : (nxL A b).Pairwise (· < ·) ∧ ∀ i, i ∈ nxL A b ↔ mayP G i ∧ G.buf i = b := by
  unfold nxL
  cases hb : A.bf b with
  | none =>
    refine ⟨List.Pairwise.nil, fun i => ?_⟩
    simp only [Option.map_none, Option.getD_none, List.not_mem_nil, false_iff]
    rintro ⟨q1, q2⟩
    have := h.h.bf i q1.1
    rw [q2, hb] at this
    cases this
  | some x =>
    refine ⟨(h.h.nx b x hb).1, fun i => ((h.h.nx b x hb).2 i).trans ⟨fun r => ⟨⟨r.1, r.2.2⟩, r.2.1⟩, fun r => ⟨r.1.1, r.2, r.1.2⟩⟩⟩
theorem bl_pw {G : Gp} {A : Ga} (h : Rel G A) (b : Int) : (blL A b).Pairwise (· < ·) ∧ ∀ i, i ∈ blL A b ↔ und G i ∧ ¬ mayP G i ∧ G.buf i = b := by
  unfold blL
  cases hb : A.bf b with
  | none =>
    refine ⟨List.Pairwise.nil, fun i => ?_⟩
    simp only [Option.map_none, Option.getD_none, List.not_mem_nil, false_iff]
    rintro ⟨q1, _, q2⟩
    have := h.h.bf i q1
    rw [q2, hb] at this
    cases this
  | some x =>
    refine ⟨(h.h.bl b x hb).1, fun i => ((h.h.bl b x hb).2 i).trans ⟨fun r => ⟨r.1, fun q => ?_, r.2.1⟩, fun r => ⟨r.1, r.2.2, Classical.byContradiction (fun q => r.2.1 ⟨r.1, fun z hz => q ⟨z, hz⟩⟩)⟩⟩⟩
    obtain ⟨z, hz⟩ := r.2.2
    exact q.2 z hz
theorem pw_nodup {S : List Int} (h : S.Pairwise (· < ·)) : S.Nodup := h.imp (fun q => Int.ne_of_lt q)
theorem rel_written {G : Gp} {A : Ga} (h : Rel G A) (b : Int) : Rel (G.fins (nxL A b)) (A.fins (nxL A b)) := rel_fins _ h (pw_nodup (nx_pw h b).1) (fun i hi => (((nx_pw h b).2 i).1 hi).1)
section
variable {X : Nat → Prop} {w W : World} {g : Nat} {A : Ga} {G : Gp}
/-- Written, whatever the graph. -/
theorem r_written (hO : DpO X w W g A) (h : Rel G A) (hG : G.Ok) (hn : G.n < 900000) {b : Int} (hwb : (Lit.int .i64 b).wf = true) : Calls Try.prog 25 #[ptV g, .int .i64 b] W fun e W' => ∃ v, e = .returned v ∧ W'.ownsRow W.heap.size 3 1 v (nxL A b).length (Iy (nxL A b)) ∧ DpO X w W' g (A.fins (nxL A b)) ∧ ∀ k, X k → W'.heap[k]? = W.heap[k]? := by
  obtain ⟨p1, p2⟩ := nx_pw h b
  have hlen : (nxL A b).length ≤ G.n := rise_len p1 (fun y hy => ((p2 y).1 hy).1.1.1)
  have hget : ∀ k, k < (nxL A b).length → (nxL A b).getD k 0 ∈ nxL A b := fun k hk => by rw [List.getD, List.getElem?_eq_getElem hk]; exact List.getElem_mem _
  refine o_written hO hwb rfl p1 (by omega) (fun k hk => ?_) (fun j hj => (h.h.ch _).2 ((p2 _).1 (hget j hj)).1.1)
  have hsub : ((nxL A b).take k).Sublist (nxL A b) := List.take_sublist _ _
  have hr := rel_fins ((nxL A b).take k) h ((pw_nodup p1).sublist hsub) (fun i hi => ((p2 i).1 (hsub.subset hi)).1)
  obtain ⟨e1, e2, e3⟩ := fins_same ((nxL A b).take k) (G := G)
  refine ⟨rel_ok hr (ok_fins hG _) (by rw [e1]; omega), ?_⟩
  have hm : mayP G ((nxL A b).getD k 0) := ((p2 _).1 (hget k hk)).1
  have hu : und (G.fins ((nxL A b).take k)) ((nxL A b).getD k 0) := by
    rw [und_fins]
    refine ⟨hm.1, fun q => ?_⟩
    obtain ⟨j, hj, e⟩ := List.getElem_of_mem q
    rw [List.length_take] at hj
    rw [List.getElem_take] at e
    have hjk : j < k := by omega
    have := List.pairwise_iff_getElem.1 p1 j k (by omega) hk hjk
    rw [e, List.getD, List.getElem?_eq_getElem hk] at this
    simp at this
  obtain ⟨c, hc⟩ := hr.h.some hu
  refine ⟨c, hc, fun y hy => ?_, ?_⟩
  · have q := ((hr.h.ab _ c hc).2 y).1 hy
    refine ⟨fun e => ?_, (hr.h.ch y).2 q.1⟩
    have q2 := q.2.1
    rw [e3, e] at q2
    exact hm.2 _ ⟨q2, hm.1⟩
  · have := rise_len (hr.h.ab _ c hc).1 (fun z hz => (((hr.h.ab _ c hc).2 z).1 hz).1.1)
    rw [e1] at this
    omega
end
end Go.Proofs.Ythmbhcmicebcpaa
