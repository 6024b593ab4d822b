/-
  What Add means for any graph; a graph as the document has it.
-/
import Derived.Test.YthmbhcmicebcpaaDpRel
namespace Go.Proofs.Ythmbhcmicebcpaa
open Go Go.Proofs Go.RowKit Go.Shelf
open Classical in
noncomputable def hungC (ch : Int → Option Ca) (i : Int) (S : List Int) : Int → Option Ca := fun j => if j ∈ S then (ch j).map (fun c => ⟨c.buf, c.on, c.ab ++ [i]⟩) else ch j
theorem fold_add {A : Ga} {i : Int} (ys : List Int) (hy : ∀ y ∈ ys, (A.ch y).isSome = true) : ∀ p : List Int × Ga, p.1.Pairwise (· < ·) → p.2 = { A with ch := hungC A.ch i p.1 } →
    (ys.foldl (addStep i) p).1.Pairwise (· < ·) ∧ (∀ x, x ∈ (ys.foldl (addStep i) p).1 ↔ x ∈ p.1 ∨ x ∈ ys) ∧ (ys.foldl (addStep i) p).2 = { A with ch := hungC A.ch i (ys.foldl (addStep i) p).1 } := by
  induction ys with
  | nil => intro p h1 h2; exact ⟨h1, fun x => by simp, h2⟩
  | cons y r ih =>
    intro p h1 h2
    rw [List.foldl_cons]
    by_cases hm : y ∈ p.1
    · have e : addStep i p y = p := by unfold addStep; rw [if_pos hm]
      rw [e]
      obtain ⟨a1, a2, a3⟩ := ih (fun z hz => hy z (by simp [hz])) p h1 h2
      refine ⟨a1, fun x => ?_, a3⟩
      rw [a2 x]
      simp only [List.mem_cons]
      exact ⟨fun q => q.elim .inl (fun q => .inr (.inr q)), fun q => q.elim .inl (fun q => q.elim (fun e => .inl (e ▸ hm)) .inr)⟩
    · have e : addStep i p y = (insS y p.1, p.2.hang i y) := by unfold addStep; rw [if_neg hm]
      rw [e]
      have e2 : p.2.hang i y = { A with ch := hungC A.ch i (insS y p.1) } := by
        have hyc := hy y (by simp)
        cases hc : A.ch y with
        | none => rw [hc] at hyc; cases hyc
        | some c =>
          have h0 : p.2.ch y = some c := by rw [h2]; show hungC A.ch i p.1 y = _; unfold hungC; rw [if_neg hm, hc]
          unfold Ga.hang
          rw [h0]
          simp only
          rw [h2]
          simp only [Ga.mk.injEq, true_and, and_true]
          funext j
          unfold hungC
          by_cases ej : j = y
          · subst ej
            rw [updC_same, if_pos (mem_ins.2 (.inl rfl)), hc]
            rfl
          · rw [updC_other _ _ ej]
            simp only [mem_ins, ej, false_or]
      obtain ⟨a1, a2, a3⟩ := ih (fun z hz => hy z (by simp [hz])) (insS y p.1, p.2.hang i y) (ins_pw h1) e2
      refine ⟨a1, fun x => ?_, a3⟩
      rw [a2 x]
      simp only [List.mem_cons, mem_ins]
      exact ⟨fun q => q.elim (fun q => q.elim (fun e => .inr (.inl e)) .inl) (fun q => .inr (.inr q)), fun q => q.elim (fun q => .inl (.inr q)) (fun q => q.elim (fun e => .inl (.inl e)) .inr)⟩
section
variable {n : Nat} {buf : Int → Int} {U : Int → Prop} {H : Int → Int → Prop} {A : Ga}
theorem rel_add (h : RelH n buf U H (fun _ => False) A) (hn : A.added = n) (b : Int) (xs : List Int) (hH : ∀ j x, U j → H j x → x ≠ (n : Int)) : RelH (n + 1) (fun j => if j = (n : Int) then b else buf j) (fun j => U j ∨ j = (n : Int)) (fun j x => (j ≠ (n : Int) ∧ H j x) ∨ (j = (n : Int) ∧ x ∈ xs ∧ U x)) (fun _ => False) (A.add b xs) ∧ (A.add b xs).nl = A.nl + 1 ∧ (A.add b xs).nb ≤ A.nb + 1 ∧ (A.add b xs).added = n + 1 ∧ (A.add b xs).ml = true ∧ (A.add b xs).mb = true := by
  have hnu : ¬ U (n : Int) := fun q => by have := (h.uu _ q).2; omega
  have hop : ∀ y, y ∈ opens A xs ↔ y ∈ xs ∧ U y := fun y => by unfold opens; rw [List.mem_filter, h.ch]
  obtain ⟨f1, f2, f3⟩ := fold_add (A := A) (i := (A.added : Nat)) (opens A xs) (fun y hy => (h.ch y).2 ((hop y).1 hy).2) ([], A) List.Pairwise.nil (by
    have : hungC A.ch (A.added : Nat) [] = A.ch := by funext j; unfold hungC; rw [if_neg (by simp)]
    show A = { A with ch := hungC A.ch (A.added : Nat) [] }
    rw [this])
  obtain ⟨S, hS⟩ : ∃ S, S = ((opens A xs).foldl (addStep (A.added : Nat)) ([], A)).1 := ⟨_, rfl⟩
  rw [← hS] at f1 f2 f3
  have hSm : ∀ x, x ∈ S ↔ x ∈ xs ∧ U x := fun x => by rw [f2 x, hop]; simp
  have hk : A.add b xs = Ga.keep ⟨n + 1, hungC A.ch (n : Int) S, A.bf, A.nl, A.nb, A.ml, A.mb⟩ (n : Int) ⟨b, S, []⟩ := by
    unfold Ga.add
    rw [← hS, f3, hn]
  have hl : A.add b xs = Ga.sort (Ga.bufd ⟨n + 1, updC (hungC A.ch (n : Int) S) (n : Int) (some ⟨b, S, []⟩), A.bf, A.nl + 1, A.nb, true, true⟩ b) (n : Int) ⟨b, S, []⟩ := by rw [hk]; rfl
  obtain ⟨C, hC⟩ : ∃ C, C = updC (hungC A.ch (n : Int) S) (n : Int) (some (⟨b, S, []⟩ : Ca)) := ⟨_, rfl⟩
  rw [← hC] at hl
  -- the changes
  have chk : ∀ j c, C j = some c → (j = (n : Int) ∧ c = ⟨b, S, []⟩) ∨ (j ≠ (n : Int) ∧ ∃ d, A.ch j = some d ∧ c.buf = d.buf ∧ c.on = d.on ∧ ((j ∈ S ∧ c.ab = d.ab ++ [(n : Int)]) ∨ (j ∉ S ∧ c.ab = d.ab))) := fun j c q => by
    rw [hC] at q
    by_cases ej : j = (n : Int)
    · rw [ej, updC_same] at q; cases q; exact .inl ⟨ej, rfl⟩
    · rw [updC_other _ _ ej] at q
      unfold hungC at q
      by_cases hm : j ∈ S
      · rw [if_pos hm] at q
        cases hd : A.ch j with
        | none => rw [hd] at q; cases q
        | some d =>
          rw [hd] at q
          cases q
          exact .inr ⟨ej, d, rfl, rfl, rfl, .inl ⟨hm, rfl⟩⟩
      · rw [if_neg hm] at q
        exact .inr ⟨ej, c, q, rfl, rfl, .inr ⟨hm, rfl⟩⟩
  have c1 : ∀ j, (C j).isSome = true ↔ U j ∨ j = (n : Int) := fun j => by
    rw [hC]
    by_cases ej : j = (n : Int)
    · rw [ej, updC_same]; simp
    · rw [updC_other _ _ ej]
      unfold hungC
      simp only [ej, or_false]
      split
      · rw [Option.isSome_map]; exact h.ch j
      · exact h.ch j
  have c2 : ∀ j c, C j = some c → c.buf = if j = (n : Int) then b else buf j := fun j c q => by
    rcases chk j c q with ⟨rfl, rfl⟩ | ⟨ne, d, hd, e1, e2, _⟩
    · rw [if_pos rfl]
    · rw [if_neg ne, e1]; exact h.cb j d hd
  have c3 : ∀ j c, C j = some c → c.on.Pairwise (· < ·) ∧ ∀ x, x ∈ c.on ↔ (j ≠ (n : Int) ∧ H j x) ∨ (j = (n : Int) ∧ x ∈ xs ∧ U x) := fun j c q => by
    rcases chk j c q with ⟨rfl, rfl⟩ | ⟨ne, d, hd, e1, e2, _⟩
    · refine ⟨f1, fun x => ?_⟩
      rw [hSm x]; simp
    · rw [e2]
      refine ⟨(h.on j d hd).1, fun x => ?_⟩
      rw [(h.on j d hd).2 x]; simp [ne]
  have c4 : ∀ j c, C j = some c → c.ab.Pairwise (· < ·) ∧ ∀ y, y ∈ c.ab ↔ (U y ∨ y = (n : Int)) ∧ ((y ≠ (n : Int) ∧ H y j) ∨ (y = (n : Int) ∧ j ∈ xs ∧ U j)) := fun j c q => by
    rcases chk j c q with ⟨rfl, rfl⟩ | ⟨ne, d, hd, e1, e2, e3⟩
    · refine ⟨List.Pairwise.nil, fun y => ?_⟩
      simp only [List.not_mem_nil, false_iff]
      rintro ⟨q1, q2⟩
      rcases q2 with ⟨q2, q3⟩ | ⟨q2, q3, q4⟩
      · rcases q1 with q1 | q1
        · exact hH y _ q1 q3 rfl
        · exact q2 q1
      · exact hnu q4
    · have hu := h.of hd
      have old : ∀ y, y ∈ d.ab ↔ U y ∧ H y j := (h.ab j d hd).2
      have lt : ∀ y ∈ d.ab, y < (n : Int) := fun y hy => (h.uu y ((old y).1 hy).1).2
      rcases e3 with ⟨hm, e3⟩ | ⟨hm, e3⟩
      · rw [e3]
        refine ⟨List.pairwise_append.2 ⟨(h.ab j d hd).1, List.pairwise_singleton _ _, fun y hy z hz => by rw [List.mem_singleton.1 hz]; exact lt y hy⟩, fun y => ?_⟩
        rw [List.mem_append, List.mem_singleton, old y]
        by_cases ey : y = (n : Int)
        · subst ey
          simp only [or_true, true_and, true_iff]
          exact .inr ((hSm j).1 hm)
        · simp [ey]
      · rw [e3]
        refine ⟨(h.ab j d hd).1, fun y => ?_⟩
        rw [old y]
        by_cases ey : y = (n : Int)
        · subst ey
          simp only [ne_eq, not_true_eq_false, false_and, true_and, false_or, or_true]
          exact ⟨fun r => absurd r.1 hnu, fun r => absurd ((hSm j).2 r) hm⟩
        · simp [ey]
  -- the buffers
  have hb0 : ∀ j, U j → (if j = (n : Int) then b else buf j) = buf j := fun j hj => if_neg (fun (e : j = (n : Int)) => hnu (e ▸ hj))
  obtain ⟨x, hx, hbd⟩ : ∃ x : Ba, (x.nx.Pairwise (· < ·) ∧ (∀ i, i ∈ x.nx ↔ U i ∧ buf i = b ∧ ∀ z, ¬ H i z) ∧ x.bl.Pairwise (· < ·) ∧ ∀ i, i ∈ x.bl ↔ U i ∧ buf i = b ∧ ∃ z, H i z) ∧ ∃ k, k ≤ A.nb + 1 ∧ ∃ B, Ga.bufd ⟨n + 1, C, A.bf, A.nl + 1, A.nb, true, true⟩ b = ⟨n + 1, C, B, A.nl + 1, k, true, true⟩ ∧ B b = some x ∧ ∀ c, c ≠ b → B c = A.bf c := by
    cases hq : A.bf b with
    | some x =>
      refine ⟨x, ⟨(h.nx b x hq).1, (h.nx b x hq).2, (h.bl b x hq).1, (h.bl b x hq).2⟩, A.nb, by omega, A.bf, ?_, hq, fun _ _ => rfl⟩
      unfold Ga.bufd
      simp only
      rw [hq]
    | none =>
      have hno : ∀ i, ¬ (U i ∧ buf i = b) := fun i q => by have := h.bf i q.1; rw [q.2, hq] at this; cases this
      refine ⟨⟨[], []⟩, ⟨List.Pairwise.nil, fun i => by simp; exact fun q1 q2 => absurd ⟨q1, q2⟩ (hno i), List.Pairwise.nil, fun i => by simp; exact fun q1 q2 => absurd ⟨q1, q2⟩ (hno i)⟩, A.nb + 1, Nat.le_refl _, updC A.bf b (some ⟨[], []⟩), ?_, updC_same _ _ _, fun c hc => updC_other _ _ hc⟩
      unfold Ga.bufd
      simp only
      rw [hq]
  obtain ⟨k, hk1, B, hB, hBb, hBo⟩ := hbd
  rw [hB] at hl
  obtain ⟨x1, x2, x3, x4⟩ := hx
  have hHn : (∀ z, ¬ ((((n : Int) ≠ (n : Int)) ∧ H n z) ∨ ((n : Int) = (n : Int) ∧ z ∈ xs ∧ U z))) ↔ S = [] := by
    constructor
    · intro q
      cases hs : S with
      | nil => rfl
      | cons z r =>
        have := (hSm z).1 (by rw [hs]; simp)
        exact absurd (.inr ⟨rfl, this⟩) (q z)
    · intro q z hz
      rcases hz with ⟨q1, _⟩ | ⟨_, q2⟩
      · exact q1 rfl
      · have := (hSm z).2 q2
        rw [q] at this
        cases this
  obtain ⟨y, hy1, hy2⟩ : ∃ y : Ba, A.add b xs = ⟨n + 1, C, updC B b (some y), A.nl + 1, k, true, true⟩ ∧ ((S = [] ∧ y = ⟨insS n x.nx, x.bl⟩) ∨ (S ≠ [] ∧ y = ⟨x.nx, insS n x.bl⟩)) := by
    rw [hl]
    unfold Ga.sort
    simp only
    rw [hBb]
    simp only
    by_cases hs : S = []
    · rw [if_pos hs]; exact ⟨_, rfl, .inl ⟨hs, rfl⟩⟩
    · rw [if_neg hs]; exact ⟨_, rfl, .inr ⟨hs, rfl⟩⟩
  rw [hy1]
  have nxm : y.nx.Pairwise (· < ·) ∧ ∀ i, i ∈ y.nx ↔ (U i ∨ i = (n : Int)) ∧ (if i = (n : Int) then b else buf i) = b ∧ ∀ z, ¬ ((i ≠ (n : Int) ∧ H i z) ∨ (i = (n : Int) ∧ z ∈ xs ∧ U z)) := by
    have oth : ∀ i, i ≠ (n : Int) → (i ∈ x.nx ↔ (U i ∨ i = (n : Int)) ∧ (if i = (n : Int) then b else buf i) = b ∧ ∀ z, ¬ ((i ≠ (n : Int) ∧ H i z) ∨ (i = (n : Int) ∧ z ∈ xs ∧ U z))) := fun i ei => by rw [x2 i]; simp [ei]
    rcases hy2 with ⟨hs, rfl⟩ | ⟨hs, rfl⟩
    · refine ⟨ins_pw x1, fun i => ?_⟩
      show i ∈ insS n x.nx ↔ _
      rw [mem_ins]
      by_cases ei : i = (n : Int)
      · subst ei
        refine ⟨fun _ => ⟨.inr rfl, if_pos rfl, hHn.2 hs⟩, fun _ => .inl rfl⟩
      · rw [← oth i ei]; simp [ei]
    · refine ⟨x1, fun i => ?_⟩
      by_cases ei : i = (n : Int)
      · subst ei
        exact ⟨fun q => absurd ((x2 _).1 q).1 hnu, fun q => absurd (hHn.1 q.2.2) hs⟩
      · exact oth i ei
  have blm : y.bl.Pairwise (· < ·) ∧ ∀ i, i ∈ y.bl ↔ (U i ∨ i = (n : Int)) ∧ (if i = (n : Int) then b else buf i) = b ∧ ∃ z, (i ≠ (n : Int) ∧ H i z) ∨ (i = (n : Int) ∧ z ∈ xs ∧ U z) := by
    have oth : ∀ i, i ≠ (n : Int) → (i ∈ x.bl ↔ (U i ∨ i = (n : Int)) ∧ (if i = (n : Int) then b else buf i) = b ∧ ∃ z, (i ≠ (n : Int) ∧ H i z) ∨ (i = (n : Int) ∧ z ∈ xs ∧ U z)) := fun i ei => by rw [x4 i]; simp [ei]
    rcases hy2 with ⟨hs, rfl⟩ | ⟨hs, rfl⟩
    · refine ⟨x3, fun i => ?_⟩
      by_cases ei : i = (n : Int)
      · subst ei
        exact ⟨fun q => absurd ((x4 _).1 q).1 hnu, fun q => q.2.2.elim (fun z hz => absurd hz (hHn.2 hs z))⟩
      · exact oth i ei
    · refine ⟨ins_pw x3, fun i => ?_⟩
      show i ∈ insS n x.bl ↔ _
      rw [mem_ins]
      by_cases ei : i = (n : Int)
      · subst ei
        refine ⟨fun _ => ⟨.inr rfl, if_pos rfl, ?_⟩, fun _ => .inl rfl⟩
        exact Classical.byContradiction (fun q => hs (hHn.1 (fun z hz => q ⟨z, hz⟩)))
      · rw [← oth i ei]; simp [ei]
  have bchk : ∀ c v, updC B b (some y) c = some v → (c = b ∧ v = y) ∨ (c ≠ b ∧ A.bf c = some v) := fun c v q => by
    by_cases ec : c = b
    · rw [ec, updC_same] at q; cases q; exact .inl ⟨ec, rfl⟩
    · rw [updC_other _ _ ec, hBo c ec] at q; exact .inr ⟨ec, q⟩
  refine ⟨⟨fun i q => ?_, c1, c2, c3, c4, fun i q => ?_, fun c v q => ?_, fun c v q => ?_, fun c v q _ => ?_⟩, rfl, hk1, rfl, rfl, rfl⟩
  · rcases q with q | q
    · have := h.uu i q; omega
    · omega
  · show (updC B b (some y) (if i = (n : Int) then b else buf i)).isSome = true
    by_cases ec : (if i = (n : Int) then b else buf i) = b
    · rw [ec, updC_same]; rfl
    · rw [updC_other _ _ ec, hBo _ ec]
      rcases q with q | q
      · rw [hb0 i q]; exact h.bf i q
      · rw [if_pos q] at ec; exact absurd rfl ec
  · rcases bchk c v q with ⟨rfl, rfl⟩ | ⟨ne, q⟩
    · exact nxm
    · refine ⟨(h.nx c v q).1, fun i => ?_⟩
      rw [(h.nx c v q).2 i]
      by_cases ei : i = (n : Int)
      · subst ei
        refine ⟨fun r => absurd r.1 hnu, fun r => ?_⟩
        rw [if_pos rfl] at r
        exact absurd r.2.1.symm ne
      · simp [ei]
  · rcases bchk c v q with ⟨rfl, rfl⟩ | ⟨ne, q⟩
    · exact blm
    · refine ⟨(h.bl c v q).1, fun i => ?_⟩
      rw [(h.bl c v q).2 i]
      by_cases ei : i = (n : Int)
      · subst ei
        refine ⟨fun r => absurd r.1 hnu, fun r => ?_⟩
        rw [if_pos rfl] at r
        exact absurd r.2.1.symm ne
      · simp [ei]
  · rcases bchk c v q with ⟨rfl, rfl⟩ | ⟨ne, q⟩
    · rcases hy2 with ⟨_, rfl⟩ | ⟨_, rfl⟩
      · have : 0 < (insS n x.nx).length := List.length_pos_of_mem (mem_ins.2 (.inl rfl))
        show (insS n x.nx).length + _ ≠ 0
        omega
      · have : 0 < (insS n x.bl).length := List.length_pos_of_mem (mem_ins.2 (.inl rfl))
        show _ + (insS n x.bl).length ≠ 0
        omega
    · exact h.ne c v q (fun f => f)
end
end Go.Proofs.Ythmbhcmicebcpaa
