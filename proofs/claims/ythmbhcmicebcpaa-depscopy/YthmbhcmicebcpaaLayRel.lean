/-
  What the steps mean for any graph: lists alone.
-/
import Derived.Test.YthmbhcmicebcpaaDpO
namespace Go.Proofs.Ythmbhcmicebcpaa
open Go Go.Proofs Go.RowKit Go.Shelf
/-- A graph by who is not done (U) and who hangs on whom (H); E: buffers that may be empty. -/
structure RelH (n : Nat) (buf : Int → Int) (U : Int → Prop) (H : Int → Int → Prop) (E : Int → Prop) (A : Ga) : Prop where
  uu : ∀ i, U i → 0 ≤ i ∧ i < n
  ch : ∀ i, (A.ch i).isSome = true ↔ U i
  cb : ∀ i c, A.ch i = some c → c.buf = buf i
  on : ∀ i c, A.ch i = some c → c.on.Pairwise (· < ·) ∧ ∀ x, x ∈ c.on ↔ H i x
  ab : ∀ i c, A.ch i = some c → c.ab.Pairwise (· < ·) ∧ ∀ y, y ∈ c.ab ↔ U y ∧ H y i
  bf : ∀ i, U i → (A.bf (buf i)).isSome = true
  nx : ∀ b x, A.bf b = some x → x.nx.Pairwise (· < ·) ∧ ∀ i, i ∈ x.nx ↔ U i ∧ buf i = b ∧ ∀ z, ¬ H i z
  bl : ∀ b x, A.bf b = some x → x.bl.Pairwise (· < ·) ∧ ∀ i, i ∈ x.bl ↔ U i ∧ buf i = b ∧ ∃ z, H i z
  ne : ∀ b x, A.bf b = some x → ¬ E b → x.nx.length + x.bl.length ≠ 0
section
variable {n : Nat} {buf : Int → Int} {U : Int → Prop} {H : Int → Int → Prop} {E : Int → Prop} {A : Ga}
theorem RelH.some (h : RelH n buf U H E A) {i : Int} (hi : U i) : ∃ c, A.ch i = Option.some c := by
  have := (h.ch i).2 hi
  cases hc : A.ch i with
  | none => rw [hc] at this; cases this
  | some c => exact ⟨c, rfl⟩
theorem RelH.some_bf (h : RelH n buf U H E A) {i : Int} (hi : U i) : ∃ c, A.bf (buf i) = Option.some c := by
  have := h.bf i hi
  cases hc : A.bf (buf i) with
  | none => rw [hc] at this; cases this
  | some c => exact ⟨c, rfl⟩
theorem RelH.of (h : RelH n buf U H E A) {i : Int} {c : Ca} (hc : A.ch i = Option.some c) : U i := (h.ch i).1 (by rw [hc]; rfl)
theorem rel_cut (h : RelH n buf U H (fun _ => False) A) {i : Int} (hi : U i) (hm : ∀ z, ¬ H i z) : RelH n buf (fun j => U j ∧ j ≠ i) H (fun b => b = buf i) (A.cut i (buf i)) ∧ (A.cut i (buf i)).nl = A.nl - 1 ∧ (A.cut i (buf i)).nb = A.nb ∧ (A.cut i (buf i)).added = A.added ∧ (A.cut i (buf i)).ml = A.ml ∧ (A.cut i (buf i)).mb = A.mb := by
  obtain ⟨x, hx⟩ := h.some_bf hi
  have e : A.cut i (buf i) = { A with ch := updC A.ch i none, nl := A.nl - 1, bf := updC A.bf (buf i) (some ⟨delS i x.nx, x.bl⟩) } := by unfold Ga.cut; rw [hx]
  rw [e]
  have sub : ∀ j c, updC A.ch i none j = some c → A.ch j = some c ∧ j ≠ i := fun j c q => by
    by_cases ej : j = i
    · rw [ej, updC_same] at q; cases q
    · rw [updC_other _ _ ej] at q; exact ⟨q, ej⟩
  refine ⟨⟨fun j q => h.uu j q.1, fun j => ?_, fun j c q => h.cb j c (sub j c q).1, fun j c q => h.on j c (sub j c q).1, fun j c q => ?_, fun j q => ?_, fun b y q => ?_, fun b y q => ?_, fun b y q hb => ?_⟩, rfl, rfl, rfl, rfl, rfl⟩
  · show (updC A.ch i none j).isSome = true ↔ _
    by_cases ej : j = i
    · subst ej; rw [updC_same]; simp
    · rw [updC_other _ _ ej, h.ch]; simp [ej]
  · obtain ⟨q1, q2⟩ := sub j c q
    refine ⟨(h.ab j c q1).1, fun y => ?_⟩
    rw [(h.ab j c q1).2 y]
    exact ⟨fun r => ⟨⟨r.1, fun ey => hm j (ey ▸ r.2)⟩, r.2⟩, fun r => ⟨r.1.1, r.2⟩⟩
  · show (updC A.bf (buf i) _ (buf j)).isSome = true
    by_cases ej : buf j = buf i
    · rw [ej, updC_same]; rfl
    · rw [updC_other _ _ ej]; exact h.bf j q.1
  · have q : updC A.bf (buf i) (some ⟨delS i x.nx, x.bl⟩) b = some y := q
    by_cases eb : b = buf i
    · subst eb
      rw [updC_same] at q
      cases q
      refine ⟨(h.nx _ x hx).1.filter _, fun j => ?_⟩
      show j ∈ delS i x.nx ↔ _
      rw [mem_del, (h.nx _ x hx).2 j]
      exact ⟨fun r => ⟨⟨r.1.1, r.2⟩, r.1.2⟩, fun r => ⟨⟨r.1.1, r.2⟩, r.1.2⟩⟩
    · rw [updC_other _ _ eb] at q
      refine ⟨(h.nx b y q).1, fun j => ?_⟩
      rw [(h.nx b y q).2 j]
      exact ⟨fun r => ⟨⟨r.1, fun ej => eb (by rw [← r.2.1, ej])⟩, r.2⟩, fun r => ⟨r.1.1, r.2⟩⟩
  · have q : updC A.bf (buf i) (some ⟨delS i x.nx, x.bl⟩) b = some y := q
    have key : ∀ y, A.bf b = some y → ∀ j, j ∈ y.bl ↔ (U j ∧ j ≠ i) ∧ buf j = b ∧ ∃ z, H j z := fun y hy j => by
      rw [(h.bl b y hy).2 j]
      exact ⟨fun r => ⟨⟨r.1, fun ej => by obtain ⟨z, hz⟩ := r.2.2; exact hm z (ej ▸ hz)⟩, r.2⟩, fun r => ⟨r.1.1, r.2⟩⟩
    by_cases eb : b = buf i
    · subst eb
      rw [updC_same] at q
      cases q
      exact ⟨(h.bl _ x hx).1, key x hx⟩
    · rw [updC_other _ _ eb] at q
      exact ⟨(h.bl b y q).1, key y q⟩
  · have q : updC A.bf (buf i) (some ⟨delS i x.nx, x.bl⟩) b = some y := q
    rw [updC_other _ _ hb] at q
    exact h.ne b y q (fun f => f)
theorem rel_unhang (h : RelH n buf U H E A) {i y : Int} (hy : U y) (hi : ¬ U i) : RelH n buf U (fun j x => H j x ∧ ¬ (j = y ∧ x = i)) E (A.unhang i y) ∧ (A.unhang i y).nl = A.nl ∧ (A.unhang i y).nb = A.nb ∧ (A.unhang i y).added = A.added ∧ (A.unhang i y).ml = A.ml ∧ (A.unhang i y).mb = A.mb := by
  obtain ⟨c, hc⟩ := h.some hy
  obtain ⟨x, hx⟩ := h.some_bf hy
  have hcb := h.cb y c hc
  have hon := h.on y c hc
  have memD : ∀ z, z ∈ delS i c.on ↔ H y z ∧ ¬ (y = y ∧ z = i) := fun z => by rw [mem_del, hon.2 z]; simp
  have chk : ∀ j d, updC A.ch y (some ⟨c.buf, delS i c.on, c.ab⟩) j = some d → (j ≠ y ∧ A.ch j = some d) ∨ (j = y ∧ d = ⟨c.buf, delS i c.on, c.ab⟩) := fun j d q => by
    by_cases ej : j = y
    · rw [ej, updC_same] at q; cases q; exact .inr ⟨ej, rfl⟩
    · rw [updC_other _ _ ej] at q; exact .inl ⟨ej, q⟩
  have c1 : ∀ j, (updC A.ch y (some ⟨c.buf, delS i c.on, c.ab⟩) j).isSome = true ↔ U j := fun j => by
    by_cases ej : j = y
    · rw [ej, updC_same]; simp [hy]
    · rw [updC_other _ _ ej]; exact h.ch j
  have c2 : ∀ j d, updC A.ch y (some ⟨c.buf, delS i c.on, c.ab⟩) j = some d → d.buf = buf j := fun j d q => by
    rcases chk j d q with ⟨_, q⟩ | ⟨rfl, rfl⟩
    · exact h.cb j d q
    · exact hcb
  have c3 : ∀ j d, updC A.ch y (some ⟨c.buf, delS i c.on, c.ab⟩) j = some d → d.on.Pairwise (· < ·) ∧ ∀ x, x ∈ d.on ↔ H j x ∧ ¬ (j = y ∧ x = i) := fun j d q => by
    rcases chk j d q with ⟨ne, q⟩ | ⟨rfl, rfl⟩
    · refine ⟨(h.on j d q).1, fun z => ?_⟩
      rw [(h.on j d q).2 z]; simp [ne]
    · exact ⟨hon.1.filter _, memD⟩
  have c4 : ∀ j d, updC A.ch y (some ⟨c.buf, delS i c.on, c.ab⟩) j = some d → d.ab.Pairwise (· < ·) ∧ ∀ z, z ∈ d.ab ↔ U z ∧ H z j ∧ ¬ (z = y ∧ j = i) := fun j d q => by
    have hj : j ≠ i := fun e => by
      rcases chk j d q with ⟨_, q⟩ | ⟨q, _⟩
      · exact hi (e ▸ h.of q)
      · exact hi (e ▸ (q ▸ hy))
    have : ∃ d0, A.ch j = some d0 ∧ d.ab = d0.ab := by
      rcases chk j d q with ⟨_, q⟩ | ⟨rfl, rfl⟩
      · exact ⟨d, q, rfl⟩
      · exact ⟨c, hc, rfl⟩
    obtain ⟨d0, q0, e0⟩ := this
    rw [e0]
    refine ⟨(h.ab j d0 q0).1, fun z => ?_⟩
    rw [(h.ab j d0 q0).2 z]; simp [hj]
  by_cases he : delS i c.on = []
  · have e : A.unhang i y = { A with ch := updC A.ch y (some ⟨c.buf, delS i c.on, c.ab⟩), bf := updC A.bf (buf y) (some ⟨insS y x.nx, delS y x.bl⟩) } := by
      unfold Ga.unhang
      rw [hc]
      simp only
      rw [if_pos he]
      unfold Ga.freed
      simp only
      rw [hcb, hx]
    have hno : ∀ z, ¬ (H y z ∧ ¬ (y = y ∧ z = i)) := fun z q => by
      have := (memD z).2 q
      rw [he] at this
      cases this
    rw [e]
    refine ⟨⟨h.uu, c1, c2, c3, c4, fun j q => ?_, fun b v q => ?_, fun b v q => ?_, fun b v q hb => ?_⟩, rfl, rfl, rfl, rfl, rfl⟩
    · show (updC A.bf (buf y) _ (buf j)).isSome = true
      by_cases ej : buf j = buf y
      · rw [ej, updC_same]; rfl
      · rw [updC_other _ _ ej]; exact h.bf j q
    · have q : updC A.bf (buf y) (some ⟨insS y x.nx, delS y x.bl⟩) b = some v := q
      by_cases eb : b = buf y
      · subst eb
        rw [updC_same] at q
        cases q
        refine ⟨ins_pw (h.nx _ x hx).1, fun j => ?_⟩
        show j ∈ insS y x.nx ↔ _
        rw [mem_ins, (h.nx _ x hx).2 j]
        by_cases ej : j = y
        · subst ej
          exact ⟨fun _ => ⟨hy, rfl, hno⟩, fun _ => .inl rfl⟩
        · simp [ej]
      · rw [updC_other _ _ eb] at q
        refine ⟨(h.nx b v q).1, fun j => ?_⟩
        rw [(h.nx b v q).2 j]
        by_cases ej : j = y
        · subst ej
          exact ⟨fun r => absurd r.2.1.symm eb, fun r => absurd r.2.1.symm eb⟩
        · simp [ej]
    · have q : updC A.bf (buf y) (some ⟨insS y x.nx, delS y x.bl⟩) b = some v := q
      by_cases eb : b = buf y
      · subst eb
        rw [updC_same] at q
        cases q
        refine ⟨(h.bl _ x hx).1.filter _, fun j => ?_⟩
        show j ∈ delS y x.bl ↔ _
        rw [mem_del, (h.bl _ x hx).2 j]
        by_cases ej : j = y
        · subst ej
          exact ⟨fun r => absurd rfl r.2, fun r => by obtain ⟨z, hz⟩ := r.2.2; exact absurd hz (hno z)⟩
        · simp [ej]
      · rw [updC_other _ _ eb] at q
        refine ⟨(h.bl b v q).1, fun j => ?_⟩
        rw [(h.bl b v q).2 j]
        by_cases ej : j = y
        · subst ej
          exact ⟨fun r => absurd r.2.1.symm eb, fun r => absurd r.2.1.symm eb⟩
        · simp [ej]
    · have q : updC A.bf (buf y) (some ⟨insS y x.nx, delS y x.bl⟩) b = some v := q
      by_cases eb : b = buf y
      · subst eb
        rw [updC_same] at q
        cases q
        have : 0 < (insS y x.nx).length := List.length_pos_of_mem (mem_ins.2 (.inl rfl))
        show (insS y x.nx).length + _ ≠ 0
        omega
      · rw [updC_other _ _ eb] at q
        exact h.ne b v q hb
  · have e : A.unhang i y = { A with ch := updC A.ch y (some ⟨c.buf, delS i c.on, c.ab⟩) } := by
      unfold Ga.unhang
      rw [hc]
      simp only
      rw [if_neg he]
    have hyes : ∃ z, H y z ∧ ¬ (y = y ∧ z = i) := by
      cases hd : delS i c.on with
      | nil => exact absurd hd he
      | cons z r => exact ⟨z, (memD z).1 (by rw [hd]; simp)⟩
    rw [e]
    refine ⟨⟨h.uu, c1, c2, c3, c4, h.bf, fun b v q => ⟨(h.nx b v q).1, fun j => ?_⟩, fun b v q => ⟨(h.bl b v q).1, fun j => ?_⟩, h.ne⟩, rfl, rfl, rfl, rfl, rfl⟩
    · rw [(h.nx b v q).2 j]
      by_cases ej : j = y
      · subst ej
        obtain ⟨z, hz⟩ := hyes
        exact ⟨fun r => absurd hz.1 (r.2.2 z), fun r => absurd hz (r.2.2 z)⟩
      · simp [ej]
    · rw [(h.bl b v q).2 j]
      by_cases ej : j = y
      · subst ej
        obtain ⟨z, hz⟩ := hyes
        exact ⟨fun r => ⟨r.1, r.2.1, z, hz⟩, fun r => ⟨r.1, r.2.1, z, hz.1⟩⟩
      · simp [ej]
theorem rel_unhangs {i : Int} (hi : ¬ U i) (ys : List Int) (hy : ∀ y ∈ ys, U y) : ∀ {H : Int → Int → Prop} {A : Ga}, RelH n buf U H E A → RelH n buf U (fun j x => H j x ∧ ¬ (j ∈ ys ∧ x = i)) E (ys.foldl (Ga.unhang i) A) ∧ (ys.foldl (Ga.unhang i) A).nl = A.nl ∧ (ys.foldl (Ga.unhang i) A).nb = A.nb ∧ (ys.foldl (Ga.unhang i) A).added = A.added ∧ (ys.foldl (Ga.unhang i) A).ml = A.ml ∧ (ys.foldl (Ga.unhang i) A).mb = A.mb := by
  induction ys with
  | nil =>
    intro H A h
    refine ⟨?_, rfl, rfl, rfl, rfl, rfl⟩
    have e : (fun j x => H j x ∧ ¬ (j ∈ ([] : List Int) ∧ x = i)) = H := by funext j x; simp
    rw [e]
    exact h
  | cons y r ih =>
    intro H A h
    obtain ⟨a1, a2, a3, a4, a5, a6⟩ := rel_unhang h (i := i) (hy y (by simp)) hi
    obtain ⟨b1, b2, b3, b4, b5, b6⟩ := ih (fun z hz => hy z (by simp [hz])) a1
    refine ⟨?_, b2.trans a2, b3.trans a3, b4.trans a4, b5.trans a5, b6.trans a6⟩
    have e : (fun j x => (H j x ∧ ¬ (j = y ∧ x = i)) ∧ ¬ (j ∈ r ∧ x = i)) = (fun j x => H j x ∧ ¬ (j ∈ y :: r ∧ x = i)) := by
      funext j x
      simp only [List.mem_cons, eq_iff_iff]
      constructor
      · rintro ⟨⟨q1, q2⟩, q3⟩
        exact ⟨q1, fun q => q.1.elim (fun e => q2 ⟨e, q.2⟩) (fun e => q3 ⟨e, q.2⟩)⟩
      · rintro ⟨q1, q2⟩
        exact ⟨⟨q1, fun q => q2 ⟨.inl q.1, q.2⟩⟩, fun q => q2 ⟨.inr q.1, q.2⟩⟩
    rw [e] at b1
    exact b1
theorem rel_shed {b : Int} (h : RelH n buf U H (fun x => x = b) A) : RelH n buf U H (fun _ => False) (A.shed b) ∧ (A.shed b).nl = A.nl ∧ (A.shed b).nb ≤ A.nb ∧ (A.shed b).added = A.added ∧ (A.shed b).ml = A.ml ∧ (A.shed b).mb = A.mb := by
  unfold Ga.shed
  cases hx : A.bf b with
  | none =>
    exact ⟨⟨h.uu, h.ch, h.cb, h.on, h.ab, h.bf, h.nx, h.bl, fun c y q _ => h.ne c y q (fun e => by rw [e, hx] at q; cases q)⟩, rfl, Nat.le_refl _, rfl, rfl, rfl⟩
  | some x =>
    simp only
    split
    · rename_i h0
      have hn : ∀ i, U i → buf i ≠ b := fun i hi e => by
        by_cases q : ∃ z, H i z
        · have := List.length_pos_of_mem ((((h.bl b x hx).2 i).2 ⟨hi, e, q⟩))
          omega
        · have := List.length_pos_of_mem ((((h.nx b x hx).2 i).2 ⟨hi, e, fun z hz => q ⟨z, hz⟩⟩))
          omega
      have sub : ∀ c y, updC A.bf b none c = some y → A.bf c = some y ∧ c ≠ b := fun c y q => by
        by_cases ec : c = b
        · rw [ec, updC_same] at q; cases q
        · rw [updC_other _ _ ec] at q; exact ⟨q, ec⟩
      refine ⟨⟨h.uu, h.ch, h.cb, h.on, h.ab, fun i hi => ?_, fun c y q => h.nx c y (sub c y q).1, fun c y q => h.bl c y (sub c y q).1, fun c y q _ => h.ne c y (sub c y q).1 (sub c y q).2⟩, rfl, by show A.nb - 1 ≤ _; omega, rfl, rfl, rfl⟩
      show (updC A.bf b none (buf i)).isSome = true
      rw [updC_other _ _ (hn i hi)]
      exact h.bf i hi
    · rename_i h0
      refine ⟨⟨h.uu, h.ch, h.cb, h.on, h.ab, h.bf, h.nx, h.bl, fun c y q _ => ?_⟩, rfl, Nat.le_refl _, rfl, rfl, rfl⟩
      by_cases ec : c = b
      · subst ec
        rw [hx] at q
        cases q
        exact h0
      · exact h.ne c y q ec
/-- A change is done. -/
theorem rel_finish (h : RelH n buf U H (fun _ => False) A) {i : Int} (hi : U i) (hm : ∀ z, ¬ H i z) : RelH n buf (fun j => U j ∧ j ≠ i) (fun j x => H j x ∧ x ≠ i) (fun _ => False) (A.finish i) ∧ (A.finish i).nl = A.nl - 1 ∧ (A.finish i).nb ≤ A.nb ∧ (A.finish i).added = A.added ∧ (A.finish i).ml = A.ml ∧ (A.finish i).mb = A.mb := by
  obtain ⟨c, hc⟩ := h.some hi
  have hcb := h.cb i c hc
  obtain ⟨a1, a2, a3, a4, a5, a6⟩ := rel_cut h hi hm
  obtain ⟨b1, b2, b3, b4, b5, b6⟩ := rel_unhangs (i := i) (fun q => q.2 rfl) c.ab (fun y hy => by
    have := ((h.ab i c hc).2 y).1 hy
    exact ⟨this.1, fun e => hm i (e ▸ this.2)⟩) a1
  obtain ⟨d1, d2, d3, d4, d5, d6⟩ := rel_shed b1
  have e : A.finish i = (c.ab.foldl (Ga.unhang i) (A.cut i (buf i))).shed (buf i) := by
    unfold Ga.finish
    rw [hc]
    simp only
    rw [hcb]
  rw [e]
  refine ⟨⟨d1.uu, d1.ch, d1.cb, fun j c' q => ⟨(d1.on j c' q).1, fun x => ?_⟩, fun j c' q => ⟨(d1.ab j c' q).1, fun y => ?_⟩, d1.bf, fun b x q => ⟨(d1.nx b x q).1, fun j => ?_⟩, fun b x q => ⟨(d1.bl b x q).1, fun j => ?_⟩, d1.ne⟩, by rw [d2, b2, a2], by rw [← a3, ← b3]; exact d3, by rw [d4, b4, a4], by rw [d5, b5, a5], by rw [d6, b6, a6]⟩
  all_goals have key : ∀ j x, U j → (H j x ∧ ¬ (j ∈ c.ab ∧ x = i) ↔ H j x ∧ x ≠ i) := fun j x hj => ⟨fun r => ⟨r.1, fun ex => r.2 ⟨((h.ab i c hc).2 j).2 ⟨hj, ex ▸ r.1⟩, ex⟩⟩, fun r => ⟨r.1, fun q => r.2 q.2⟩⟩
  · rw [(d1.on j c' q).2 x]
    exact key j x (d1.of q).1
  · rw [(d1.ab j c' q).2 y]
    exact ⟨fun r => ⟨r.1, (key y j r.1.1).1 r.2⟩, fun r => ⟨r.1, (key y j r.1.1).2 r.2⟩⟩
  · rw [(d1.nx b x q).2 j]
    exact ⟨fun r => ⟨r.1, r.2.1, fun z hz => r.2.2 z ((key j z r.1.1).2 hz)⟩, fun r => ⟨r.1, r.2.1, fun z hz => r.2.2 z ((key j z r.1.1).1 hz)⟩⟩
  · rw [(d1.bl b x q).2 j]
    exact ⟨fun r => ⟨r.1, r.2.1, r.2.2.elim (fun z hz => ⟨z, (key j z r.1.1).1 hz⟩)⟩, fun r => ⟨r.1, r.2.1, r.2.2.elim (fun z hz => ⟨z, (key j z r.1.1).2 hz⟩)⟩⟩
end
end Go.Proofs.Ythmbhcmicebcpaa
namespace Go.Proofs.Ythmbhcmicebcpaa
open Go Go.Proofs Go.RowKit Go.Shelf
open Classical in
noncomputable def hungC (ch : Int → Option Ca) (i : Int) (S : List Int) : Int → Option Ca := fun j => if j ∈ S then (ch j).map (fun c => ⟨c.buf, c.on, c.ab ++ [i]⟩) else ch j
theorem fold_add {A : Ga} {i : Int} (ys : List Int) (hy : ∀ y ∈ ys, (A.ch y).isSome = true) : ∀ p : List Int × Ga, p.1.Pairwise (· < ·) → p.2 = { A with ch := hungC A.ch i p.1 } →
    (ys.foldl (addStep i) p).1.Pairwise (· < ·) ∧ (∀ x, x ∈ (ys.foldl (addStep i) p).1 ↔ x ∈ p.1 ∨ x ∈ ys) ∧ (ys.foldl (addStep i) p).2 = { A with ch := hungC A.ch i (ys.foldl (addStep i) p).1 } := by
  induction ys with
  | nil => intro p h1 h2; exact ⟨h1, fun x => by simp, h2⟩
  | cons y r ih =>
    intro p h1 h2
    rw [List.foldl_cons]
    by_cases hm : y ∈ p.1
    · have e : addStep i p y = p := by unfold addStep; rw [if_pos hm]
      rw [e]
      obtain ⟨a1, a2, a3⟩ := ih (fun z hz => hy z (by simp [hz])) p h1 h2
      refine ⟨a1, fun x => ?_, a3⟩
      rw [a2 x]
      simp only [List.mem_cons]
      exact ⟨fun q => q.elim .inl (fun q => .inr (.inr q)), fun q => q.elim .inl (fun q => q.elim (fun e => .inl (e ▸ hm)) .inr)⟩
    · have e : addStep i p y = (insS y p.1, p.2.hang i y) := by unfold addStep; rw [if_neg hm]
      rw [e]
      have e2 : p.2.hang i y = { A with ch := hungC A.ch i (insS y p.1) } := by
        have hyc := hy y (by simp)
        cases hc : A.ch y with
        | none => rw [hc] at hyc; cases hyc
        | some c =>
          have h0 : p.2.ch y = some c := by rw [h2]; show hungC A.ch i p.1 y = _; unfold hungC; rw [if_neg hm, hc]
          unfold Ga.hang
          rw [h0]
          simp only
          rw [h2]
          simp only [Ga.mk.injEq, true_and, and_true]
          funext j
          unfold hungC
          by_cases ej : j = y
          · subst ej
            rw [updC_same, if_pos (mem_ins.2 (.inl rfl)), hc]
            rfl
          · rw [updC_other _ _ ej]
            simp only [mem_ins, ej, false_or]
      obtain ⟨a1, a2, a3⟩ := ih (fun z hz => hy z (by simp [hz])) (insS y p.1, p.2.hang i y) (ins_pw h1) e2
      refine ⟨a1, fun x => ?_, a3⟩
      rw [a2 x]
      simp only [List.mem_cons, mem_ins]
      exact ⟨fun q => q.elim (fun q => q.elim (fun e => .inr (.inl e)) .inl) (fun q => .inr (.inr q)), fun q => q.elim (fun q => .inl (.inr q)) (fun q => q.elim (fun e => .inl (.inl e)) .inr)⟩
section
variable {n : Nat} {buf : Int → Int} {U : Int → Prop} {H : Int → Int → Prop} {A : Ga}
theorem rel_add (h : RelH n buf U H (fun _ => False) A) (hn : A.added = n) (b : Int) (xs : List Int) (hH : ∀ j x, U j → H j x → x ≠ (n : Int)) : RelH (n + 1) (fun j => if j = (n : Int) then b else buf j) (fun j => U j ∨ j = (n : Int)) (fun j x => (j ≠ (n : Int) ∧ H j x) ∨ (j = (n : Int) ∧ x ∈ xs ∧ U x)) (fun _ => False) (A.add b xs) ∧ (A.add b xs).nl = A.nl + 1 ∧ (A.add b xs).nb ≤ A.nb + 1 ∧ (A.add b xs).added = n + 1 ∧ (A.add b xs).ml = true ∧ (A.add b xs).mb = true := by
  have hnu : ¬ U (n : Int) := fun q => by have := (h.uu _ q).2; omega
  have hop : ∀ y, y ∈ opens A xs ↔ y ∈ xs ∧ U y := fun y => by unfold opens; rw [List.mem_filter, h.ch]
  obtain ⟨f1, f2, f3⟩ := fold_add (A := A) (i := (A.added : Nat)) (opens A xs) (fun y hy => (h.ch y).2 ((hop y).1 hy).2) ([], A) List.Pairwise.nil (by
    have : hungC A.ch (A.added : Nat) [] = A.ch := by funext j; unfold hungC; rw [if_neg (by simp)]
    show A = { A with ch := hungC A.ch (A.added : Nat) [] }
    rw [this])
  obtain ⟨S, hS⟩ : ∃ S, S = ((opens A xs).foldl (addStep (A.added : Nat)) ([], A)).1 := ⟨_, rfl⟩
  rw [← hS] at f1 f2 f3
  have hSm : ∀ x, x ∈ S ↔ x ∈ xs ∧ U x := fun x => by rw [f2 x, hop]; simp
  have hk : A.add b xs = Ga.keep ⟨n + 1, hungC A.ch (n : Int) S, A.bf, A.nl, A.nb, A.ml, A.mb⟩ (n : Int) ⟨b, S, []⟩ := by
    unfold Ga.add
    rw [← hS, f3, hn]
  have hl : A.add b xs = Ga.sort (Ga.bufd ⟨n + 1, updC (hungC A.ch (n : Int) S) (n : Int) (some ⟨b, S, []⟩), A.bf, A.nl + 1, A.nb, true, true⟩ b) (n : Int) ⟨b, S, []⟩ := by rw [hk]; rfl
  obtain ⟨C, hC⟩ : ∃ C, C = updC (hungC A.ch (n : Int) S) (n : Int) (some (⟨b, S, []⟩ : Ca)) := ⟨_, rfl⟩
  rw [← hC] at hl
  -- the changes
  have chk : ∀ j c, C j = some c → (j = (n : Int) ∧ c = ⟨b, S, []⟩) ∨ (j ≠ (n : Int) ∧ ∃ d, A.ch j = some d ∧ c.buf = d.buf ∧ c.on = d.on ∧ ((j ∈ S ∧ c.ab = d.ab ++ [(n : Int)]) ∨ (j ∉ S ∧ c.ab = d.ab))) := fun j c q => by
    rw [hC] at q
    by_cases ej : j = (n : Int)
    · rw [ej, updC_same] at q; cases q; exact .inl ⟨ej, rfl⟩
    · rw [updC_other _ _ ej] at q
      unfold hungC at q
      by_cases hm : j ∈ S
      · rw [if_pos hm] at q
        cases hd : A.ch j with
        | none => rw [hd] at q; cases q
        | some d =>
          rw [hd] at q
          cases q
          exact .inr ⟨ej, d, rfl, rfl, rfl, .inl ⟨hm, rfl⟩⟩
      · rw [if_neg hm] at q
        exact .inr ⟨ej, c, q, rfl, rfl, .inr ⟨hm, rfl⟩⟩
  have c1 : ∀ j, (C j).isSome = true ↔ U j ∨ j = (n : Int) := fun j => by
    rw [hC]
    by_cases ej : j = (n : Int)
    · rw [ej, updC_same]; simp
    · rw [updC_other _ _ ej]
      unfold hungC
      simp only [ej, or_false]
      split
      · rw [Option.isSome_map]; exact h.ch j
      · exact h.ch j
  have c2 : ∀ j c, C j = some c → c.buf = if j = (n : Int) then b else buf j := fun j c q => by
    rcases chk j c q with ⟨rfl, rfl⟩ | ⟨ne, d, hd, e1, e2, _⟩
    · rw [if_pos rfl]
    · rw [if_neg ne, e1]; exact h.cb j d hd
  have c3 : ∀ j c, C j = some c → c.on.Pairwise (· < ·) ∧ ∀ x, x ∈ c.on ↔ (j ≠ (n : Int) ∧ H j x) ∨ (j = (n : Int) ∧ x ∈ xs ∧ U x) := fun j c q => by
    rcases chk j c q with ⟨rfl, rfl⟩ | ⟨ne, d, hd, e1, e2, _⟩
    · refine ⟨f1, fun x => ?_⟩
      rw [hSm x]; simp
    · rw [e2]
      refine ⟨(h.on j d hd).1, fun x => ?_⟩
      rw [(h.on j d hd).2 x]; simp [ne]
  have c4 : ∀ j c, C j = some c → c.ab.Pairwise (· < ·) ∧ ∀ y, y ∈ c.ab ↔ (U y ∨ y = (n : Int)) ∧ ((y ≠ (n : Int) ∧ H y j) ∨ (y = (n : Int) ∧ j ∈ xs ∧ U j)) := fun j c q => by
    rcases chk j c q with ⟨rfl, rfl⟩ | ⟨ne, d, hd, e1, e2, e3⟩
    · refine ⟨List.Pairwise.nil, fun y => ?_⟩
      simp only [List.not_mem_nil, false_iff]
      rintro ⟨q1, q2⟩
      rcases q2 with ⟨q2, q3⟩ | ⟨q2, q3, q4⟩
      · rcases q1 with q1 | q1
        · exact hH y _ q1 q3 rfl
        · exact q2 q1
      · exact hnu q4
    · have hu := h.of hd
      have old : ∀ y, y ∈ d.ab ↔ U y ∧ H y j := (h.ab j d hd).2
      have lt : ∀ y ∈ d.ab, y < (n : Int) := fun y hy => (h.uu y ((old y).1 hy).1).2
      rcases e3 with ⟨hm, e3⟩ | ⟨hm, e3⟩
      · rw [e3]
        refine ⟨List.pairwise_append.2 ⟨(h.ab j d hd).1, List.pairwise_singleton _ _, fun y hy z hz => by rw [List.mem_singleton.1 hz]; exact lt y hy⟩, fun y => ?_⟩
        rw [List.mem_append, List.mem_singleton, old y]
        by_cases ey : y = (n : Int)
        · subst ey
          simp only [or_true, true_and, true_iff]
          exact .inr ((hSm j).1 hm)
        · simp [ey]
      · rw [e3]
        refine ⟨(h.ab j d hd).1, fun y => ?_⟩
        rw [old y]
        by_cases ey : y = (n : Int)
        · subst ey
          simp only [ne_eq, not_true_eq_false, false_and, true_and, false_or, or_true]
          exact ⟨fun r => absurd r.1 hnu, fun r => absurd ((hSm j).2 r) hm⟩
        · simp [ey]
  -- the buffers
  have hb0 : ∀ j, U j → (if j = (n : Int) then b else buf j) = buf j := fun j hj => if_neg (fun (e : j = (n : Int)) => hnu (e ▸ hj))
  obtain ⟨x, hx, hbd⟩ : ∃ x : Ba, (x.nx.Pairwise (· < ·) ∧ (∀ i, i ∈ x.nx ↔ U i ∧ buf i = b ∧ ∀ z, ¬ H i z) ∧ x.bl.Pairwise (· < ·) ∧ ∀ i, i ∈ x.bl ↔ U i ∧ buf i = b ∧ ∃ z, H i z) ∧ ∃ k, k ≤ A.nb + 1 ∧ ∃ B, Ga.bufd ⟨n + 1, C, A.bf, A.nl + 1, A.nb, true, true⟩ b = ⟨n + 1, C, B, A.nl + 1, k, true, true⟩ ∧ B b = some x ∧ ∀ c, c ≠ b → B c = A.bf c := by
    cases hq : A.bf b with
    | some x =>
      refine ⟨x, ⟨(h.nx b x hq).1, (h.nx b x hq).2, (h.bl b x hq).1, (h.bl b x hq).2⟩, A.nb, by omega, A.bf, ?_, hq, fun _ _ => rfl⟩
      unfold Ga.bufd
      simp only
      rw [hq]
    | none =>
      have hno : ∀ i, ¬ (U i ∧ buf i = b) := fun i q => by have := h.bf i q.1; rw [q.2, hq] at this; cases this
      refine ⟨⟨[], []⟩, ⟨List.Pairwise.nil, fun i => by simp; exact fun q1 q2 => absurd ⟨q1, q2⟩ (hno i), List.Pairwise.nil, fun i => by simp; exact fun q1 q2 => absurd ⟨q1, q2⟩ (hno i)⟩, A.nb + 1, Nat.le_refl _, updC A.bf b (some ⟨[], []⟩), ?_, updC_same _ _ _, fun c hc => updC_other _ _ hc⟩
      unfold Ga.bufd
      simp only
      rw [hq]
  obtain ⟨k, hk1, B, hB, hBb, hBo⟩ := hbd
  rw [hB] at hl
  obtain ⟨x1, x2, x3, x4⟩ := hx
  have hHn : (∀ z, ¬ ((((n : Int) ≠ (n : Int)) ∧ H n z) ∨ ((n : Int) = (n : Int) ∧ z ∈ xs ∧ U z))) ↔ S = [] := by
    constructor
    · intro q
      cases hs : S with
      | nil => rfl
      | cons z r =>
        have := (hSm z).1 (by rw [hs]; simp)
        exact absurd (.inr ⟨rfl, this⟩) (q z)
    · intro q z hz
      rcases hz with ⟨q1, _⟩ | ⟨_, q2⟩
      · exact q1 rfl
      · have := (hSm z).2 q2
        rw [q] at this
        cases this
  obtain ⟨y, hy1, hy2⟩ : ∃ y : Ba, A.add b xs = ⟨n + 1, C, updC B b (some y), A.nl + 1, k, true, true⟩ ∧ ((S = [] ∧ y = ⟨insS n x.nx, x.bl⟩) ∨ (S ≠ [] ∧ y = ⟨x.nx, insS n x.bl⟩)) := by
    rw [hl]
    unfold Ga.sort
    simp only
    rw [hBb]
    simp only
    by_cases hs : S = []
    · rw [if_pos hs]; exact ⟨_, rfl, .inl ⟨hs, rfl⟩⟩
    · rw [if_neg hs]; exact ⟨_, rfl, .inr ⟨hs, rfl⟩⟩
  rw [hy1]
  have nxm : y.nx.Pairwise (· < ·) ∧ ∀ i, i ∈ y.nx ↔ (U i ∨ i = (n : Int)) ∧ (if i = (n : Int) then b else buf i) = b ∧ ∀ z, ¬ ((i ≠ (n : Int) ∧ H i z) ∨ (i = (n : Int) ∧ z ∈ xs ∧ U z)) := by
    have oth : ∀ i, i ≠ (n : Int) → (i ∈ x.nx ↔ (U i ∨ i = (n : Int)) ∧ (if i = (n : Int) then b else buf i) = b ∧ ∀ z, ¬ ((i ≠ (n : Int) ∧ H i z) ∨ (i = (n : Int) ∧ z ∈ xs ∧ U z))) := fun i ei => by rw [x2 i]; simp [ei]
    rcases hy2 with ⟨hs, rfl⟩ | ⟨hs, rfl⟩
    · refine ⟨ins_pw x1, fun i => ?_⟩
      show i ∈ insS n x.nx ↔ _
      rw [mem_ins]
      by_cases ei : i = (n : Int)
      · subst ei
        refine ⟨fun _ => ⟨.inr rfl, if_pos rfl, hHn.2 hs⟩, fun _ => .inl rfl⟩
      · rw [← oth i ei]; simp [ei]
    · refine ⟨x1, fun i => ?_⟩
      by_cases ei : i = (n : Int)
      · subst ei
        exact ⟨fun q => absurd ((x2 _).1 q).1 hnu, fun q => absurd (hHn.1 q.2.2) hs⟩
      · exact oth i ei
  have blm : y.bl.Pairwise (· < ·) ∧ ∀ i, i ∈ y.bl ↔ (U i ∨ i = (n : Int)) ∧ (if i = (n : Int) then b else buf i) = b ∧ ∃ z, (i ≠ (n : Int) ∧ H i z) ∨ (i = (n : Int) ∧ z ∈ xs ∧ U z) := by
    have oth : ∀ i, i ≠ (n : Int) → (i ∈ x.bl ↔ (U i ∨ i = (n : Int)) ∧ (if i = (n : Int) then b else buf i) = b ∧ ∃ z, (i ≠ (n : Int) ∧ H i z) ∨ (i = (n : Int) ∧ z ∈ xs ∧ U z)) := fun i ei => by rw [x4 i]; simp [ei]
    rcases hy2 with ⟨hs, rfl⟩ | ⟨hs, rfl⟩
    · refine ⟨x3, fun i => ?_⟩
      by_cases ei : i = (n : Int)
      · subst ei
        exact ⟨fun q => absurd ((x4 _).1 q).1 hnu, fun q => q.2.2.elim (fun z hz => absurd hz (hHn.2 hs z))⟩
      · exact oth i ei
    · refine ⟨ins_pw x3, fun i => ?_⟩
      show i ∈ insS n x.bl ↔ _
      rw [mem_ins]
      by_cases ei : i = (n : Int)
      · subst ei
        refine ⟨fun _ => ⟨.inr rfl, if_pos rfl, ?_⟩, fun _ => .inl rfl⟩
        exact Classical.byContradiction (fun q => hs (hHn.1 (fun z hz => q ⟨z, hz⟩)))
      · rw [← oth i ei]; simp [ei]
  have bchk : ∀ c v, updC B b (some y) c = some v → (c = b ∧ v = y) ∨ (c ≠ b ∧ A.bf c = some v) := fun c v q => by
    by_cases ec : c = b
    · rw [ec, updC_same] at q; cases q; exact .inl ⟨ec, rfl⟩
    · rw [updC_other _ _ ec, hBo c ec] at q; exact .inr ⟨ec, q⟩
  refine ⟨⟨fun i q => ?_, c1, c2, c3, c4, fun i q => ?_, fun c v q => ?_, fun c v q => ?_, fun c v q _ => ?_⟩, rfl, hk1, rfl, rfl, rfl⟩
  · rcases q with q | q
    · have := h.uu i q; omega
    · omega
  · show (updC B b (some y) (if i = (n : Int) then b else buf i)).isSome = true
    by_cases ec : (if i = (n : Int) then b else buf i) = b
    · rw [ec, updC_same]; rfl
    · rw [updC_other _ _ ec, hBo _ ec]
      rcases q with q | q
      · rw [hb0 i q]; exact h.bf i q
      · rw [if_pos q] at ec; exact absurd rfl ec
  · rcases bchk c v q with ⟨rfl, rfl⟩ | ⟨ne, q⟩
    · exact nxm
    · refine ⟨(h.nx c v q).1, fun i => ?_⟩
      rw [(h.nx c v q).2 i]
      by_cases ei : i = (n : Int)
      · subst ei
        refine ⟨fun r => absurd r.1 hnu, fun r => ?_⟩
        rw [if_pos rfl] at r
        exact absurd r.2.1.symm ne
      · simp [ei]
  · rcases bchk c v q with ⟨rfl, rfl⟩ | ⟨ne, q⟩
    · exact blm
    · refine ⟨(h.bl c v q).1, fun i => ?_⟩
      rw [(h.bl c v q).2 i]
      by_cases ei : i = (n : Int)
      · subst ei
        refine ⟨fun r => absurd r.1 hnu, fun r => ?_⟩
        rw [if_pos rfl] at r
        exact absurd r.2.1.symm ne
      · simp [ei]
  · rcases bchk c v q with ⟨rfl, rfl⟩ | ⟨ne, q⟩
    · rcases hy2 with ⟨_, rfl⟩ | ⟨_, rfl⟩
      · have : 0 < (insS n x.nx).length := List.length_pos_of_mem (mem_ins.2 (.inl rfl))
        show (insS n x.nx).length + _ ≠ 0
        omega
      · have : 0 < (insS n x.bl).length := List.length_pos_of_mem (mem_ins.2 (.inl rfl))
        show _ + (insS n x.bl).length ≠ 0
        omega
    · exact h.ne c v q (fun f => f)
end
end Go.Proofs.Ythmbhcmicebcpaa
