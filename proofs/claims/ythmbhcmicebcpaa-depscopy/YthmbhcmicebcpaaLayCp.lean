/-
  A graph that is copied, a change at a time: lists alone.
-/
import Derived.Test.YthmbhcmicebcpaaDpRel3
import Derived.Test.YthmbhcmicebcpaaLayRa
import Derived.Test.YthmbhcmicebcpaaDpBoth
import Derived.Test.YthmbhcmicebcpaaDpRnil
import Derived.Shelf.SlMaps.Clone
namespace Go.Proofs.Ythmbhcmicebcpaa
open Go Go.Proofs Go.RowKit Go.Shelf
/-- Of the graph A just the changes of L lie in B. -/
structure CpI (A : Ga) (L : List Int) (B : Ga) : Prop where
  ad : B.added = A.added
  inn : ∀ i, i ∈ L → B.ch i = A.ch i
  out : ∀ i, i ∉ L → B.ch i = none
  nd : L.Nodup
  bf : ∀ b x, B.bf b = some x → (x.nx.Pairwise (· < ·) ∧ ∀ i, i ∈ x.nx ↔ i ∈ L ∧ ∃ c, A.ch i = some c ∧ c.buf = b ∧ c.on = []) ∧ (x.bl.Pairwise (· < ·) ∧ ∀ i, i ∈ x.bl ↔ i ∈ L ∧ ∃ c, A.ch i = some c ∧ c.buf = b ∧ c.on ≠ []) ∧ x.nx.length + x.bl.length ≠ 0
  no : ∀ b, B.bf b = none → ∀ i c, i ∈ L → A.ch i = some c → c.buf ≠ b
  nl : B.nl = L.length
  nb : B.nb ≤ L.length
  ml : B.ml = decide (0 < L.length)
  mb : B.mb = decide (0 < L.length)
theorem keep_bf (B : Ga) (i : Int) (c : Ca) (b : Int) : (B.keep i c).bf b = if b = c.buf then some (if c.on = [] then ⟨insS i ((B.bf c.buf).getD ⟨[], []⟩).nx, ((B.bf c.buf).getD ⟨[], []⟩).bl⟩ else ⟨((B.bf c.buf).getD ⟨[], []⟩).nx, insS i ((B.bf c.buf).getD ⟨[], []⟩).bl⟩) else B.bf b := by
  unfold Ga.keep Ga.bufd
  have e1 : (B.lay i c).bf = B.bf := rfl
  cases hb : (B.lay i c).bf c.buf with
  | some x =>
    unfold Ga.sort
    simp only [hb]
    rw [e1] at hb
    by_cases ho : c.on = [] <;> by_cases e : b = c.buf
    · subst e; simp [ho, updC_same, hb]
    · simp [ho, updC_other _ _ e, e, e1]
    · subst e; simp [ho, updC_same, hb]
    · simp [ho, updC_other _ _ e, e, e1]
  | none =>
    unfold Ga.sort
    simp only [updC_same]
    rw [e1] at hb
    by_cases ho : c.on = [] <;> by_cases e : b = c.buf
    · subst e; simp [ho, updC_same, hb]
    · simp [ho, updC_other _ _ e, e, e1]
    · subst e; simp [ho, updC_same, hb]
    · simp [ho, updC_other _ _ e, e, e1]
theorem keep_rest (B : Ga) (i : Int) (c : Ca) : (B.keep i c).ch = updC B.ch i (some c) ∧ (B.keep i c).added = B.added ∧ (B.keep i c).nl = B.nl + 1 ∧ (B.keep i c).nb ≤ B.nb + 1 ∧ (B.keep i c).ml = true ∧ (B.keep i c).mb = true := by
  unfold Ga.keep Ga.bufd
  cases hb : (B.lay i c).bf c.buf with
  | some x =>
    unfold Ga.sort
    simp only [hb]
    by_cases ho : c.on = []
    · simp only [ho, if_true]; exact ⟨rfl, rfl, rfl, Nat.le_succ _, rfl, rfl⟩
    · simp only [ho, if_false]; exact ⟨rfl, rfl, rfl, Nat.le_succ _, rfl, rfl⟩
  | none =>
    unfold Ga.sort
    simp only [updC_same]
    by_cases ho : c.on = []
    · simp only [ho, if_true]; exact ⟨rfl, rfl, rfl, Nat.le_refl _, rfl, rfl⟩
    · simp only [ho, if_false]; exact ⟨rfl, rfl, rfl, Nat.le_refl _, rfl, rfl⟩
section
variable {A B : Ga} {L : List Int}
theorem cp_none {B : Ga} (h1 : B.added = A.added) (h2 : ∀ i, B.ch i = none) (h3 : ∀ b, B.bf b = none) (h4 : B.nl = 0) (h5 : B.nb = 0) (h6 : B.ml = false) (h7 : B.mb = false) : CpI A [] B :=
  ⟨h1, fun i q => (by cases q), fun i _ => h2 i, List.nodup_nil, fun b x q => (by rw [h3] at q; cases q), fun b _ i c q => (by cases q), h4, by rw [h5]; exact Nat.zero_le _, h6, h7⟩
theorem ins_ne (i : Int) (S : List Int) : (insS i S).length ≠ 0 := fun q => by
  have : i ∈ insS i S := mem_ins.2 (.inl rfl)
  rw [List.eq_nil_of_length_eq_zero q] at this
  cases this
/-- Of a buffer, whether it is there or not. -/
theorem cp_buf (h : CpI A L B) (b : Int) : (((B.bf b).getD ⟨[], []⟩).nx.Pairwise (· < ·) ∧ ∀ i, i ∈ ((B.bf b).getD ⟨[], []⟩).nx ↔ i ∈ L ∧ ∃ c, A.ch i = some c ∧ c.buf = b ∧ c.on = []) ∧ (((B.bf b).getD ⟨[], []⟩).bl.Pairwise (· < ·) ∧ ∀ i, i ∈ ((B.bf b).getD ⟨[], []⟩).bl ↔ i ∈ L ∧ ∃ c, A.ch i = some c ∧ c.buf = b ∧ c.on ≠ []) := by
  cases hb : B.bf b with
  | some x => exact ⟨(h.bf b x hb).1, (h.bf b x hb).2.1⟩
  | none =>
    refine ⟨⟨List.Pairwise.nil, fun i => ⟨fun q => (by cases q), ?_⟩⟩, List.Pairwise.nil, fun i => ⟨fun q => (by cases q), ?_⟩⟩
    · rintro ⟨q1, c, q2, q3, _⟩
      exact absurd q3 (h.no b hb i c q1 q2)
    · rintro ⟨q1, c, q2, q3, _⟩
      exact absurd q3 (h.no b hb i c q1 q2)
theorem cp_keep (h : CpI A L B) {i : Int} {c : Ca} (hi : i ∉ L) (hc : A.ch i = some c) : CpI A (i :: L) (B.keep i c) := by
  obtain ⟨k1, k2, k3, k4, k5, k6⟩ := keep_rest B i c
  obtain ⟨⟨n1, n2⟩, b1, b2⟩ := cp_buf h c.buf
  refine ⟨k2.trans h.ad, fun j hj => ?_, fun j hj => ?_, List.nodup_cons.2 ⟨hi, h.nd⟩, fun b x hx => ?_, fun b hb j cj hj hcj => ?_, by rw [k3, h.nl]; rfl, by have := h.nb; simp only [List.length_cons]; omega, by rw [k5]; simp, by rw [k6]; simp⟩
  · rw [k1]
    by_cases e : j = i
    · subst e; rw [updC_same, hc]
    · rw [updC_other _ _ e]
      rcases List.mem_cons.1 hj with q | q
      · exact absurd q e
      · exact h.inn j q
  · rw [k1, updC_other _ _ (fun e => hj (by rw [e]; simp))]
    exact h.out j (fun q => hj (List.mem_cons_of_mem _ q))
  · rw [keep_bf] at hx
    by_cases e : b = c.buf
    · subst e
      rw [if_pos rfl] at hx
      by_cases ho : c.on = []
      · rw [if_pos ho] at hx
        cases hx
        refine ⟨⟨ins_pw n1, fun j => ?_⟩, ⟨b1, fun j => ?_⟩, fun q => ins_ne i ((B.bf c.buf).getD ⟨[], []⟩).nx (by simp only at q; omega)⟩
        · show j ∈ insS i _ ↔ _
          rw [mem_ins, n2, List.mem_cons]
          constructor
          · rintro (rfl | ⟨q1, q2⟩)
            · exact ⟨.inl rfl, c, hc, rfl, ho⟩
            · exact ⟨.inr q1, q2⟩
          · rintro ⟨rfl | q1, q2⟩
            · exact .inl rfl
            · exact .inr ⟨q1, q2⟩
        · show j ∈ ((B.bf c.buf).getD ⟨[], []⟩).bl ↔ _
          rw [b2, List.mem_cons]
          constructor
          · rintro ⟨q1, q2⟩
            exact ⟨.inr q1, q2⟩
          · rintro ⟨rfl | q1, q2⟩
            · obtain ⟨c', q3, _, q4⟩ := q2
              rw [hc] at q3
              cases q3
              exact absurd ho q4
            · exact ⟨q1, q2⟩
      · rw [if_neg ho] at hx
        cases hx
        refine ⟨⟨n1, fun j => ?_⟩, ⟨ins_pw b1, fun j => ?_⟩, fun q => ins_ne i ((B.bf c.buf).getD ⟨[], []⟩).bl (by simp only at q; omega)⟩
        · show j ∈ ((B.bf c.buf).getD ⟨[], []⟩).nx ↔ _
          rw [n2, List.mem_cons]
          constructor
          · rintro ⟨q1, q2⟩
            exact ⟨.inr q1, q2⟩
          · rintro ⟨rfl | q1, q2⟩
            · obtain ⟨c', q3, _, q4⟩ := q2
              rw [hc] at q3
              cases q3
              exact absurd q4 ho
            · exact ⟨q1, q2⟩
        · show j ∈ insS i _ ↔ _
          rw [mem_ins, b2, List.mem_cons]
          constructor
          · rintro (rfl | ⟨q1, q2⟩)
            · exact ⟨.inl rfl, c, hc, rfl, ho⟩
            · exact ⟨.inr q1, q2⟩
          · rintro ⟨rfl | q1, q2⟩
            · exact .inl rfl
            · exact .inr ⟨q1, q2⟩
    · rw [if_neg e] at hx
      obtain ⟨⟨x1, x2⟩, ⟨x3, x4⟩, x5⟩ := h.bf b x hx
      have aux : ∀ (P : Ca → Prop) j, (j ∈ L ∧ ∃ c', A.ch j = some c' ∧ c'.buf = b ∧ P c') ↔ (j ∈ i :: L ∧ ∃ c', A.ch j = some c' ∧ c'.buf = b ∧ P c') := fun P j => by
        rw [List.mem_cons]
        constructor
        · rintro ⟨q1, q2⟩
          exact ⟨.inr q1, q2⟩
        · rintro ⟨rfl | q1, q2⟩
          · obtain ⟨c', q3, q4, _⟩ := q2
            rw [hc] at q3
            cases q3
            exact absurd q4.symm e
          · exact ⟨q1, q2⟩
      exact ⟨⟨x1, fun j => (x2 j).trans (aux (fun c' => c'.on = []) j)⟩, ⟨x3, fun j => (x4 j).trans (aux (fun c' => c'.on ≠ []) j)⟩, x5⟩
  · rw [keep_bf] at hb
    by_cases e : b = c.buf
    · rw [if_pos e] at hb
      cases hb
    · rw [if_neg e] at hb
      rcases List.mem_cons.1 hj with q | q
      · subst q
        rw [hc] at hcj
        cases hcj
        exact fun q => e q.symm
      · exact h.no b hb j cj q hcj
/-- The whole of a graph. -/
theorem rel_copy {G : Gp} (hR : Rel G A) (h : CpI A L B) (hall : ∀ i, (A.ch i).isSome = true → i ∈ L) (hl : L.length = A.nl) (h0 : 0 < L.length) : Rel G B := by
  have hch : B.ch = A.ch := by
    funext i
    by_cases q : i ∈ L
    · exact h.inn i q
    · rw [h.out i q]
      cases hc : A.ch i with
      | none => rfl
      | some c => exact absurd (hall i (by rw [hc]; rfl)) q
  have hu := hR.h
  have hon : ∀ {i : Int} {c : Ca}, A.ch i = some c → (c.on = [] ↔ ∀ z, ¬ hng G i z) := fun {i c} hc => by
    obtain ⟨_, q⟩ := hu.on i c hc
    constructor
    · intro e z hz
      have := (q z).2 hz
      rw [e] at this
      cases this
    · intro hz
      cases ho : c.on with
      | nil => rfl
      | cons z r => exact absurd ((q z).1 (by rw [ho]; simp)) (hz z)
  have hcnt : L.length = cnt G := hl.trans hR.nl
  have hpos : 0 < G.n := by have := cnt_le G; omega
  refine ⟨⟨hu.uu, fun i => by rw [hch]; exact hu.ch i, fun i c q => hu.cb i c (by rw [← hch]; exact q), fun i c q => hu.on i c (by rw [← hch]; exact q), fun i c q => hu.ab i c (by rw [← hch]; exact q), fun i hi => ?_, fun b x hx => ?_, fun b x hx => ?_, fun b x hx _ => (h.bf b x hx).2.2⟩, h.ad.trans hR.ad, h.nl.trans hcnt, by have := h.nb; have := cnt_le G; omega, by rw [h.ml, h.mb], by rw [h.mb, decide_eq_true h0, decide_eq_true hpos]⟩
  · obtain ⟨c, hc⟩ := hu.some hi
    cases hb : B.bf (G.buf i) with
    | some x => rfl
    | none => exact absurd (hu.cb i c hc) (h.no _ hb i c (hall i (by rw [hc]; rfl)) hc)
  · obtain ⟨⟨x1, x2⟩, _⟩ := h.bf b x hx
    refine ⟨x1, fun i => (x2 i).trans ?_⟩
    constructor
    · rintro ⟨_, c, q1, q2, q3⟩
      exact ⟨hu.of q1, (hu.cb i c q1).symm.trans q2, (hon q1).1 q3⟩
    · rintro ⟨q1, q2, q3⟩
      obtain ⟨c, hc⟩ := hu.some q1
      exact ⟨hall i (by rw [hc]; rfl), c, hc, (hu.cb i c hc).trans q2, (hon hc).2 q3⟩
  · obtain ⟨_, ⟨x1, x2⟩, _⟩ := h.bf b x hx
    refine ⟨x1, fun i => (x2 i).trans ?_⟩
    constructor
    · rintro ⟨_, c, q1, q2, q3⟩
      refine ⟨hu.of q1, (hu.cb i c q1).symm.trans q2, Classical.byContradiction fun q => q3 ((hon q1).2 (fun z hz => q ⟨z, hz⟩))⟩
    · rintro ⟨q1, q2, z, q3⟩
      obtain ⟨c, hc⟩ := hu.some q1
      exact ⟨hall i (by rw [hc]; rfl), c, hc, (hu.cb i c hc).trans q2, fun e => (hon hc).1 e z q3⟩
end
end Go.Proofs.Ythmbhcmicebcpaa
namespace Go.Proofs.Ythmbhcmicebcpaa
open Go Go.Proofs Go.RowKit Go.Shelf
attribute [local go_sem] Oper.semAt_some
def cloneA_ren : Go.Shelf.Ren := ⟨fun | 5 => 58 | 7 => 74 | n => n, fun | 23 => 62 | 25 => 3 | 3 => 84 | 4 => 4 | 20 => 20 | n => n, fun | n => n⟩
theorem cloneA : Go.Proofs.SlLaysW.n5 Try.prog cloneA_ren := {
  mixed := by kernel_rfl
  f5 := ⟨Try.f58.name, by decide, Try.func58.trans (congrArg some (by kernel_rfl))⟩
  f7 := Try.func74.trans (congrArg some (by kernel_rfl))
  t4 := Try.underlying4
  a4 := Try.isAgg4
  z4 := Try.sizeOf4
  v4 := Try.zeroValue4
  t20 := Try.underlying20
  a20 := Try.isAgg20
  z20 := Try.sizeOf20
  v20 := Try.zeroValue20
  t23 := Try.underlying62
  a23 := Try.isAgg62
  z23 := Try.sizeOf62
  v23 := Try.zeroValue62 }
theorem clone_none (w : World) : Calls Try.prog 58 #[.map none] w fun e w' => e = .returned (.map none) ∧ w' = w := by
  have qe := eqm_none
  go_enter Try.func58, Try.ntmps58
  go_wp2
  go_ret
  exact ⟨rfl, rfl⟩
theorem clone_some (w : World) (m : Nat) (S : List Int) (h : StAt w (some m) S) : Calls Try.prog 58 #[.map (some m)] w fun e w' => e = .returned (.map (some w.heap.size)) ∧ StAt w' (some w.heap.size) S ∧ Below w.heap.size w w' ∧ w.heap.size < w'.heap.size := by
  obtain ⟨hR, DD, hown, hsz, hD⟩ := h
  refine (AnyW.maps_Clone_owns cloneA 3 rawE m S.length DD w hown).mono ?_
  rintro e w' ⟨rfl, h1, _, h3⟩
  exact ⟨rfl, ⟨hR, DD, h1, hsz, hD⟩, h3, h1.lt⟩
/-- A copy of a set. -/
theorem clone_set (w : World) (m : Option Nat) (S : List Int) (h : StAt w m S) : Calls Try.prog 58 #[.map m] w fun e w' => ∃ m', e = .returned (.map m') ∧ Hid (StAt w' m' S ∧ Below w.heap.size w w' ∧ ∀ k, m' = some k → w.heap.size ≤ k ∧ k < w'.heap.size) := by
  cases m with
  | none =>
    refine (clone_none w).mono ?_
    rintro e w' ⟨rfl, rfl⟩
    exact ⟨none, rfl, Hid.mk ⟨h, Below.refl _ _, fun k q => by cases q⟩⟩
  | some b =>
    refine (clone_some w b S h).mono ?_
    rintro e w' ⟨rfl, h1, h2, h3⟩
    exact ⟨_, rfl, Hid.mk ⟨h1, h2, fun k q => by cases q; exact ⟨Nat.le_refl _, h3⟩⟩⟩
set_option maxRecDepth 100000 in
set_option maxHeartbeats 4000000 in
theorem setcopy_any (w : World) (b off : Nat) (m : Option Nat) (S : List Int) (hc : w.cell? ⟨b, off, none⟩ = some (.map m)) (h : StAt w m S) : Calls Try.prog 44 #[.pointer (some ⟨b, off, none⟩)] w fun e w' => ∃ m', e = .returned (.agg #[.map m']) ∧ Hid (StAt w' m' S ∧ Below w.heap.size w w' ∧ ∀ k, m' = some k → w.heap.size ≤ k ∧ k < w'.heap.size) := by
  have hB1 : Below w.heap.size w (w.alloc (.cells #[.map none] 64)) := (Below.refl _ w).alloc (Nat.le_refl _) _
  have HB1 := Hid.mk hB1
  have HN1 : Hid ((w.alloc (.cells #[.map none] 64)).heap[w.heap.size]? = some (.cells #[.map none] 64 (0, 0))) := Hid.mk (blk_new w _)
  have c1 : (w.alloc (.cells #[.map none] 64)).cell? ⟨b, off, none⟩ = some (.map m) := (World.cell?_of_block (w := w) (hB1.block b (by
    rcases Nat.lt_or_ge b w.heap.size with q | q
    · exact q
    · simp [World.cell?, Array.getElem?_eq_none q] at hc))).trans hc
  have HCL := Hid.mk (clone_set (w.alloc (.cells #[.map none] 64)) m S (h.kept (fun k q => hB1.block k (by subst q; exact h.lt))))
  clear hB1 h
  go_enter Try.func44, Try.ntmps44
  go_wp2_with (first
    | (go_at_call 58; refine HCL.out.mono ?_; rintro e w2 ⟨m2, rfl, H2⟩
       have hb2 : w2.heap[w.heap.size]? = some (.cells #[.map none] 64 (0, 0)) := (H2.out.2.1.block _ (by simp)).trans HN1.out
       have c2 : w2.cell? ⟨w.heap.size, 0, none⟩ = some (.map none) := by rw [blk_cell hb2]; rfl
       have f2 : w2.frozen? ⟨w.heap.size, 0, none⟩ = false := blk_free hb2 _
       have HB2 := Hid.mk hb2
       clear HCL hb2)
    | go_in)
  have c3 : (w2.setCell ⟨w.heap.size, 0, none⟩ (.map m2)).cell? ⟨w.heap.size, 0, none⟩ = some (.map m2) := by
    rw [blk_cell (blk_set (i := 0) (u := .map m2) HB2.out)]
    rfl
  have HS3 : Hid (StAt (w2.setCell ⟨w.heap.size, 0, none⟩ (.map m2)) m2 S ∧ Below w.heap.size w (w2.setCell ⟨w.heap.size, 0, none⟩ (.map m2)) ∧ ∀ k, m2 = some k → w.heap.size ≤ k ∧ k < (w2.setCell ⟨w.heap.size, 0, none⟩ (.map m2)).heap.size) := Hid.mk ⟨H2.out.1.kept (fun k q => set_other _ _ _ _ (fun e => by have := (H2.out.2.2 k q).1; rw [World.size_alloc] at this; omega)), Below.setCell (p := ⟨w.heap.size, 0, none⟩) (HB1.out.trans (H2.out.2.1.mono (by simp))) (Nat.le_refl _) _, fun k q => by have := H2.out.2.2 k q; rw [World.size_alloc] at this; simp; omega⟩
  have hres : (results Try.f44 #[.pointer (some ⟨b, off, none⟩), undef, .pointer (some ⟨w.heap.size, 0, none⟩), .pointer (some ⟨b, off, none⟩), .pointer (some ⟨b, off, none⟩), .pointer (some ⟨b, off, none⟩), .map m, .map m2, .agg #[.map m2]]).run Try.prog (w2.setCell ⟨w.heap.size, 0, none⟩ (.map m2)) = .ok (.agg #[.map m2]) (w2.setCell ⟨w.heap.size, 0, none⟩ (.map m2)) := by
    simp [results, Try.f44, go_sem, c3]
  refine bodyPost_ret hres rfl ?_
  exact ⟨m2, rfl, HS3⟩
set_option maxRecDepth 100000 in
set_option maxHeartbeats 4000000 in
/-- A copy of a row. -/
theorem clonei_any (w : World) (v : Value) (xs : List Int) (h : w.ownsRow 0 3 1 v xs.length (Iy xs)) (hm : xs.length ≤ 1000000) : Calls Try.prog 45 #[v] w fun e w' => ∃ v', e = .returned v' ∧ Hid (w'.ownsRow w.heap.size 3 1 v' xs.length (Iy xs) ∧ Below w.heap.size w w') := by
  obtain ⟨i0, hi, hz0, hz1, hz2⟩ := info3p
  have q23 : ∀ (w : World) (a : Option Addr) (n c n' c' : Nat), (binOp .eql 23 (.slice a n c) (.slice none n' c')).run Try.prog w = .ok (.bool a.isNone) w := fun w a n c n' c' => Lib.run_eql_slice_nil w _ _ a n c n' c' Try.underlying23
  rcases h.2 with ⟨rfl, h0⟩ | ⟨g, cap, cur, rfl, _, hh, h1, h2, h3, h4⟩
  · have HX : Hid (xs = []) := Hid.mk (List.eq_nil_of_length_eq_zero h0)
    clear h
    go_enter Try.func45, Try.ntmps45
    go_wp2
    go_ret
    refine ⟨_, rfl, Hid.mk ⟨?_, Below.refl _ _⟩⟩
    rw [HX.out]
    exact World.ownsRow_nil _ _ 3 1
  · have A : Hid (∀ j u, (Iy xs)[j]? = some u → w.cell? ((⟨g, 0, none⟩ : Addr).add j) = some u) := Hid.mk (fun j u hj => by
      have hj2 : j < xs.length := by
        have := (List.getElem?_eq_some_iff.1 hj).1
        simp only [Iy, List.length_map] at this
        exact this
      rw [add_at, Nat.zero_add, blk_cell hh]
      have : cur.toList[j]? = (Iy xs)[j]? := by
        rw [← h4, List.getElem?_take, if_pos (by omega)]
      rw [← Array.getElem?_toList, this]
      exact hj)
    have HXL : Hid (xs.length ≤ 1000000) := Hid.mk hm
    clear h hh h1 h2 h3 h4
    generalize hn : xs.length = n at *
    have HN := Hid.mk hn
    clear hn
    go_enter Try.func45, Try.ntmps45
    go_wp2_with (at_builtin; refine wpList_append_own _ rfl _ _ 23 rfl w.heap.size 3 i0 (.int .i64 0) 1 8 Try.underlying23 hi hz0 hz1 hz2 rfl (by decide) _ _ _ rfl (World.ownsRow_made w #[] 0 (Nat.le_refl _) (Nat.zero_le _) rfl) ⟨g, 0, none⟩ n cap (Iy xs) rfl ?qc1 ?qc2 ?qc3 ?qc4 ?qc5 ?qc6 ?_)
    case qc1 => simp [Iy, HN.out]
    case qc2 =>
      intro j u hj
      exact Lib.cell?_alloc_some _ (A.out j u hj)
    case qc3 => exact Iy_one xs
    case qc4 => have := HXL.out; have := HN.out; unfold maxLen; omega
    case qc5 => have := HXL.out; have := HN.out; omega
    case qc6 => simp
    intro v' w1 hown hgrow hnil
    go_wp2
    go_ret
    refine ⟨v', rfl, Hid.mk ⟨by simpa using hown, ?_⟩⟩
    exact ((Below.refl _ w).alloc (Nat.le_refl _) _).grown hgrow (by simp) (by intro k hk; simp [Value.ownBlock] at hk; omega)
end Go.Proofs.Ythmbhcmicebcpaa
namespace Go.Proofs.Ythmbhcmicebcpaa
open Go Go.Proofs Go.RowKit Go.Shelf Go.Maps
attribute [local go_sem] Oper.semAt_some
section
variable {F : Nat → Prop} {w : World} {g : Nat} {D : Gd}
theorem abs_none {D : Gd} {i : Int} (h : D.abs.ch i = none) : D.ch i = none := by
  have h2 : (D.ch i).map Cx.dat = none := h
  cases hc : D.ch i with
  | none => rfl
  | some c => rw [hc] at h2; cases h2
theorem abs_some {D : Gd} {i : Int} {c : Cx} (h : D.ch i = some c) : D.abs.ch i = some c.dat := by
  show (D.ch i).map Cx.dat = _
  rw [h]
  rfl
theorem new_at {wA : World} (ad : Nat) (hnew : wA.heap[w.heap.size]? = some (.cells #[.int .i64 (ad : Nat), .map none, .map none] 60 (0, 0))) (hsA : wA.heap.size = w.heap.size + 1) : GrAt (fun k => w.heap.size ≤ k ∧ k ≠ w.heap.size + 1) wA w.heap.size ⟨ad, none, none, fun _ => none, fun _ => none, 0, 0⟩ := by
  refine ⟨fun n k hk => ?_, fun n n' k h1 h2 => ?_, fun n => ?_⟩
  · cases n with
    | g => have e : k = w.heap.size := hk; subst e; exact ⟨⟨Nat.le_refl _, by omega⟩, by omega⟩
    | left => cases hk
    | bufs => cases hk
    | ch j => obtain ⟨_, hc, _⟩ := hk; cases hc
    | on j => obtain ⟨_, hc, _⟩ := hk; cases hc
    | ab j => obtain ⟨_, hc, _⟩ := hk; cases hc
    | bf j => obtain ⟨_, hc, _⟩ := hk; cases hc
    | nx j => obtain ⟨_, hc, _⟩ := hk; cases hc
    | bl j => obtain ⟨_, hc, _⟩ := hk; cases hc
  · cases n with
    | g =>
      cases n' with
      | g => rfl
      | left => cases h2
      | bufs => cases h2
      | ch j => obtain ⟨_, hc, _⟩ := h2; cases hc
      | on j => obtain ⟨_, hc, _⟩ := h2; cases hc
      | ab j => obtain ⟨_, hc, _⟩ := h2; cases hc
      | bf j => obtain ⟨_, hc, _⟩ := h2; cases hc
      | nx j => obtain ⟨_, hc, _⟩ := h2; cases hc
      | bl j => obtain ⟨_, hc, _⟩ := h2; cases hc
    | left => cases h1
    | bufs => cases h1
    | ch j => obtain ⟨_, hc, _⟩ := h1; cases hc
    | on j => obtain ⟨_, hc, _⟩ := h1; cases hc
    | ab j => obtain ⟨_, hc, _⟩ := h1; cases hc
    | bf j => obtain ⟨_, hc, _⟩ := h1; cases hc
    | nx j => obtain ⟨_, hc, _⟩ := h1; cases hc
    | bl j => obtain ⟨_, hc, _⟩ := h1; cases hc
  · cases n with
    | g => exact hnew
    | left => exact ⟨rfl, fun l => by unfold leftF; split <;> rfl⟩
    | bufs => exact ⟨rfl, fun l => by unfold bufF; split <;> rfl⟩
    | ch j => exact fun c hc => by cases hc
    | on j => exact fun c hc => by cases hc
    | ab j => exact fun c hc => by cases hc
    | bf j => exact fun c hc => by cases hc
    | nx j => exact fun c hc => by cases hc
    | bl j => exact fun c hc => by cases hc
theorem left_is (ch : Int → Option Cx) (x : Int) : (leftF ch (.int .i64 x)).isSome = (ch x).isSome := by
  show ((ch x).map (fun c => ptV c.cb)).isSome = _
  rw [Option.isSome_map]
theorem nodup_len : ∀ (L R : List Int), L.Nodup → (∀ z ∈ L, z ∈ R) → L.length ≤ R.length
  | [], R, _, _ => Nat.zero_le _
  | x :: L, R, hn, hs => by
    have hx : x ∈ R := hs x (by simp)
    have h2 := List.nodup_cons.1 hn
    have := nodup_len L (R.erase x) h2.2 (fun z hz => (List.mem_erase_of_ne (fun e => h2.1 (by rw [← e]; exact hz))).2 (hs z (List.mem_cons_of_mem _ hz)))
    rw [List.length_erase_of_mem hx] at this
    have := List.length_pos_of_mem hx
    simp only [List.length_cons]
    omega
/-- What keep asks, of a copy of a part of a graph. -/
theorem cp_room {A : Ga} {L : List Int} (ok : A.Ok) (h : CpI A L D.abs) (b : Int) (x : Bx) (hx : D.bf b = some x) : x.nx.length < 1000000 ∧ x.bl.length < 1000000 := by
  have h2 : D.abs.bf b = some x.dat := by show (D.bf b).map Bx.dat = _; rw [hx]; rfl
  obtain ⟨⟨p1, p2⟩, ⟨p3, p4⟩, _⟩ := h.bf b _ h2
  have hb := ok.big
  have r1 := rise_len (n := A.added) p1 (fun y hy => by obtain ⟨_, c, hc, _⟩ := (p2 y).1 hy; exact (ok.chs y c hc).1)
  have r2 := rise_len (n := A.added) p3 (fun y hy => by obtain ⟨_, c, hc, _⟩ := (p4 y).1 hy; exact (ok.chs y c hc).1)
  have e1 : x.dat.nx = x.nx := rfl
  have e2 : x.dat.bl = x.bl := rfl
  rw [e1] at r1
  rw [e2] at r2
  exact ⟨by omega, by omega⟩
set_option maxRecDepth 100000 in
set_option maxHeartbeats 8000000 in
theorem copy_some (h : GrAt F w g D) {lb : Nat} (hlm : D.lm = some lb) (ok : D.abs.Ok) (hab : ∀ y c, D.ch y = some c → c.ab.length ≤ 900000) (hnl : D.nl < 1000000) (R : List Int) (hR : KeyL (leftF D.ch) R) :
    Calls Try.prog 26 #[ptV g] w fun e w' => ∃ gc D' L, e = .returned (ptV gc) ∧ Hid (GrAt (fun k => w.heap.size ≤ k) w' gc D' ∧ Below w.heap.size w w' ∧ CpI D.abs L D'.abs ∧ (∀ i, (D.abs.ch i).isSome = true → i ∈ L) ∧ L.length = D.nl) := by
  obtain ⟨g0, g1, _, _⟩ := h.cellsG
  rw [hlm] at g1
  have hm : MapAt w D.lm D.nl (leftF D.ch) := h.cont .left
  have HRL : Hid (R.length = D.nl) := Hid.mk (map_len hm hR)
  rw [hlm] at hm
  obtain ⟨Dm, hown, hsz, hD⟩ := hm
  have hbl := hown.lt
  obtain ⟨ad, had⟩ : ∃ ad, ad = D.added := ⟨_, rfl⟩
  rw [← had] at g0
  have HAD := Hid.mk had
  obtain ⟨wA, hwA⟩ : ∃ wA, wA = w.alloc (.cells #[.int .i64 (ad : Nat), .map none, .map none] 60) := ⟨_, rfl⟩
  have hBA : Below w.heap.size w wA := by rw [hwA]; exact (Below.refl _ w).alloc (Nat.le_refl _) _
  have hsA : wA.heap.size = w.heap.size + 1 := by rw [hwA]; simp
  have hnew : wA.heap[w.heap.size]? = some (.cells #[.int .i64 (ad : Nat), .map none, .map none] 60 (0, 0)) := by rw [hwA]; exact blk_new w _
  have hownA : wA.ownsMap Try.prog 3 rawE lb D.nl Dm := by
    obtain ⟨es, clock, o1, o2⟩ := hown
    exact ⟨es, clock, (hBA.block lb hbl).trans o1, o2⟩
  have g1A : wA.cell? ⟨g, 1, none⟩ = some (.map (some lb)) := (World.cell?_of_block (w := w) (hBA.block g (h.lt (n := .g) rfl))).trans g1
  have HNEW := Hid.mk (new_at (w := w) ad hnew hsA)
  have HENT : Hid (∀ (x : Int) (c : Value) (kl : Lit) (y : DataW Value × List MemPlace), keyOf Try.prog 3 (.int .i64 x) = some kl → rawE c = some y → (∀ zd, Dm.atKey kl zd = y.1) → kl = .int .i64 x ∧ ∃ cx, D.ch x = some cx ∧ c = ptV cx.cb) := Hid.mk (fun x c kl y hk hr hat => by
    obtain ⟨x', ex, rfl, hwx⟩ := Maps.keyOf_int_inv Try.underlying3 hk
    cases ex
    refine ⟨rfl, ?_⟩
    obtain ⟨h1, h2⟩ := hD _ _ hk
    have hy := rawE_inv (show rawE c = some (y.1, y.2) from hr)
    cases hb : D.ch x with
    | none =>
      have hf : leftF D.ch (.int .i64 x) = none := by simp [leftF, hb]
      rw [hf] at h1
      have a1 := hat (.held (.bool true))
      have a2 := hat (.held (.bool false))
      rw [Maps.atKey_of_not_has h1] at a1 a2
      rw [← a2] at a1
      cases a1
    | some cx =>
      have hf : leftF D.ch (.int .i64 x) = some (ptV cx.cb) := by simp [leftF, hb]
      have := h2 _ hf (.held (.bool true))
      rw [hat, hy] at this
      cases this
      exact ⟨cx, rfl, rfl⟩)
  have HHAS : Hid (∀ x : Int, (Lit.int .i64 x).wf = true → ∀ cx, D.ch x = some cx → Maps.has Dm (.int .i64 x) = true) := Hid.mk (fun x hw cx hb => by
    rw [(hD _ _ (key_int hw)).1]
    simp [leftF, hb])
  have HH := Hid.mk h
  have HOK := Hid.mk ok
  have HAB := Hid.mk hab
  have HR := Hid.mk hR
  have HSZ := Hid.mk hsz
  have HNL := Hid.mk hnl
  have HBA := Hid.mk hBA
  have HSA := Hid.mk hsA
  subst hwA
  clear hD h hR hBA hsA hnew hown hab ok hnl had
  go_enter Try.func26, Try.ntmps26
  go_wp2_with (first
    | (at_range; refine wpList_range_own _ rfl _ 57 rfl 3 56 keyed3 Try.underlying57 _ lb D.nl _ rfl hownA ?_; intro w0 hrg0 hg0 hs0)
    | go_in)
  (try go_frame)
  rw [HSA.out] at hrg0 hs0
  rw [HSA.out]
  have HB0 : Hid (Below (w.heap.size + 1) (w.alloc (.cells #[.int .i64 (ad : Nat), .map none, .map none] 60)) w0) := Hid.mk ⟨hg0.os, hg0.tape, hg0.output, hg0.size, fun k hk => hg0.block k (by rw [HSA.out]; exact hk) (by simp)⟩
  have HG0 : Hid (GrAt (fun k => w.heap.size ≤ k ∧ k ≠ w.heap.size + 1) w0 w.heap.size ⟨ad, none, none, fun _ => none, fun _ => none, 0, 0⟩) := Hid.mk (HNEW.out.grow (by rw [HSA.out]; exact HB0.out))
  go_loopw [5] (fun _ wr => ∃ (left : Lit → Bool) (cnt : Nat) (L : List Int) (D2 : Gd), wr.ranges Try.prog 3 rawE lb (w.heap.size + 1) D.nl Dm left cnt ∧ Hid (GrAt (fun k => w.heap.size ≤ k ∧ k ≠ w.heap.size + 1) wr w.heap.size D2) ∧ Hid (Below w.heap.size w wr ∧ w.heap.size + 2 ≤ wr.heap.size) ∧ Hid (CpI D.abs L D2.abs ∧ ∀ x, x ∈ L ↔ (D.ch x).isSome = true ∧ left (.int .i64 x) = false)) (fun _ wr => wr.rangeLeft lb (w.heap.size + 1))
  case atStart =>
    refine ⟨_, _, [], _, hrg0, HG0, Hid.mk ⟨HBA.out.trans (HB0.out.mono (by omega)), by omega⟩, Hid.mk ⟨cp_none HAD.out (fun _ => rfl) (fun _ => rfl) rfl rfl rfl rfl, fun x => ⟨fun h => (by cases h), fun h => ?_⟩⟩⟩
    exfalso
    obtain ⟨q1, q2⟩ := h
    cases hc : D.ch x with
    | none => rw [hc] at q1; cases q1
    | some cx =>
      have := HHAS.out x (wf_small (HOK.out.chs x _ (abs_some hc)).1 HOK.out.big) cx hc
      rw [q2] at this
      cases this
  case round =>
    obtain ⟨left, cnt, L, D2, hrg, HG2, HBW, HL⟩ := hrel
    clear hrg0 hg0 hs0 HB0 HG0 HNEW
    go_wp2_with (first
      | (at_next; refine wpList_next_ranges _ rfl _ rfl 3 keyed3 rawE (Value.int .i64) (fun v : Value => v) (fun key kl hk => by obtain ⟨x, rfl, _⟩ := Maps.keyOf_int_inv Try.underlying3 hk; exact ⟨x, rfl⟩) (fun v y _ => ⟨v, rfl⟩) lb (w.heap.size + 1) D.nl _ _ _ rfl hrg ?_ ?_)
      | go_in)
    · intro hc0 hl0
      have HLA : Hid (∀ x, x ∈ L ↔ (D.ch x).isSome = true) := Hid.mk (fun x => (HL.out.2 x).trans ⟨fun q => q.1, fun q => ⟨q, hl0 _⟩⟩)
      clear hl0 hrg
      go_wp2
      go_ret
      refine ⟨_, D2, L, rfl, Hid.mk ⟨HG2.out.mono (fun k _ q => q.1), HBW.out.1, HL.out.1, fun i hi => ?_, ?_⟩⟩
      · refine (HLA.out i).2 ?_
        have hi' : ((D.ch i).map Cx.dat).isSome = true := hi
        cases hc : D.ch i with
        | none => rw [hc] at hi'; cases hi'
        | some c => rfl
      · rw [← HRL.out]
        refine ((List.perm_ext_iff_of_nodup HL.out.1.nd (HR.out.1.1.imp (fun h => Int.ne_of_lt h))).2 (fun x => ?_)).length_eq
        rw [HLA.out x]
        have := HR.out.2 x
        have e : (leftF D.ch (.int .i64 x)).isSome = (D.ch x).isSome := left_is D.ch x
        rw [e] at this
        rw [this, decide_eq_true_iff]
    · intro x c kl yd yp w1 cnt1 hkx hlx hry hat hrg1 hlt hg1 hs1 hen
      obtain ⟨rfl, cx, hcx, rfl⟩ := HENT.out x c kl (yd, yp) hkx hry hat
      have hB1 : Below w.heap.size w w1 := HBW.out.1.trans ⟨hg1.os, hg1.tape, hg1.output, hg1.size, fun k hk => hg1.block k (by have := HBW.out.2; omega) (fun e => by cases e; omega)⟩
      have hgr := HH.out.grow hB1
      have hgc := (HG2.out.only (S := fun k => k = w.heap.size + 1) ⟨hg1.os, hg1.tape, hg1.output, hg1.size, fun k hk hs => hg1.block k hk (fun e => by cases e; exact hs rfl)⟩ (fun k hk _ e => hk.2 e)).tight
      have hxL : x ∉ L := fun hx => by
        have := ((HL.out.2 x).1 hx).2
        rw [hlx] at this
        cases this
      have hsame : ∀ z : Int, (left (.int .i64 z) && !(Lit.int .i64 z).sameKey (.int .i64 x)) = false ↔ (left (.int .i64 z) = false ∨ z = x) := fun z => by
        by_cases e : z = x
        · subst e
          simp [Lit.sameKey]
        · have : (Lit.int .i64 z).sameKey (.int .i64 x) = false := Maps.sameKey_ne (fun h => e (by cases h; rfl))
          simp [this, e]
      have HS1 : Hid (w.heap.size + 2 ≤ w1.heap.size) := Hid.mk (by have := HBW.out.2; omega)
      have HFIN : Hid (CpI D.abs (x :: L) (D2.abs.keep x cx.dat) ∧ ∀ z, z ∈ x :: L ↔ (D.ch z).isSome = true ∧ (left (.int .i64 z) && !(Lit.int .i64 z).sameKey (.int .i64 x)) = false) := Hid.mk ⟨cp_keep HL.out.1 hxL (abs_some hcx), fun z => by
        rw [hsame z, List.mem_cons, HL.out.2 z]
        constructor
        · rintro (q | q)
          · subst q
            exact ⟨by rw [hcx]; rfl, .inr rfl⟩
          · exact ⟨q.1, .inl q.2⟩
        · rintro ⟨q1, q2 | q2⟩
          · exact .inr ⟨q1, q2⟩
          · exact .inl q2⟩
      have hcc : w1.heap[cx.cb]? = some (chO x cx) := hgr.cont (.ch x) cx hcx
      have HCP := Hid.mk (setcopy_any w1.drew cx.cb 2 cx.om cx.on (hgr.cellsC hcx).2.2.1 ((hgr.cont (.on x) cx hcx).kept (fun _ _ => rfl)))
      have HROW : Hid (∀ W, Below w1.heap.size w1 W → Calls Try.prog 45 #[cx.av] W fun e w' => ∃ v', e = .returned v' ∧ Hid (w'.ownsRow W.heap.size 3 1 v' cx.ab.length (Iy cx.ab) ∧ Below W.heap.size W w')) := Hid.mk (fun W hB => clonei_any W cx.av cx.ab (row_same (hgr.cont (.ab x) cx hcx) (fun k hk => hB.block k (hgr.lt (n := .ab x) ⟨cx, hcx, hk⟩))) (by have := HAB.out x cx hcx; omega))
      have HKEEP : Hid (∀ W m2 v3, Below w1.heap.size w1 W → StAt W m2 cx.on → (∀ k, m2 = some k → w1.heap.size ≤ k ∧ k < W.heap.size) → W.ownsRow 0 3 1 v3 cx.ab.length (Iy cx.ab) → (∀ k, v3.ownBlock = some k → w1.heap.size ≤ k ∧ k < W.heap.size ∧ m2 ≠ some k) →
          Calls Try.prog 43 #[ptV w.heap.size, ptV W.heap.size] (W.alloc (.cells #[.int .i64 x, .int .i64 cx.buf, .map m2, v3] 77)) fun e w' => e = .returned (.tuple #[]) ∧ Hid (∃ D3, GrAt (fun k => w.heap.size ≤ k ∧ k ≠ w.heap.size + 1) w' w.heap.size D3 ∧ D3.abs = D2.abs.keep x cx.dat ∧ Only (fun k => w.heap.size ≤ k ∧ k ≠ w.heap.size + 1) w1 w')) := Hid.mk (fun W m2 v3 hB hst hm2 hro hv3 => by
        have hBW : Below W.heap.size W (W.alloc (.cells #[.int .i64 x, .int .i64 cx.buf, .map m2, v3] 77)) := (Below.refl _ W).alloc (Nat.le_refl _) _
        have hsz1 : (W.alloc (.cells #[.int .i64 x, .int .i64 cx.buf, .map m2, v3] 77)).heap.size = W.heap.size + 1 := by simp
        have hBB : Below w1.heap.size w1 (W.alloc (.cells #[.int .i64 x, .int .i64 cx.buf, .map m2, v3] 77)) := hB.trans (hBW.mono hB.size)
        have hwz := hB.size
        have hs1' := HS1.out
        have hown2 : ∀ k, OwnA w.heap.size D2 k → k < w1.heap.size := fun k hk => by obtain ⟨n, hn⟩ := hk; exact (hgc.own n k hn).2
        have hchs := HOK.out.chs x _ (abs_some hcx)
        have hlm2 : D2.lm.isSome = D2.bm.isSome := (HL.out.1.ml).trans (HL.out.1.mb).symm
        have hnl2 : D2.nl ≤ D.nl := by
          have e1 : D2.nl = L.length := HL.out.1.nl
          have e2 : (x :: L).length ≤ R.length := by
            refine nodup_len _ _ HFIN.out.1.nd (fun z hz => ?_)
            have q := ((HFIN.out.2 z).1 hz).1
            have := HR.out.2 z
            have e : (leftF D.ch (.int .i64 z)).isSome = (D.ch z).isSome := left_is D.ch z
            rw [e, q] at this
            exact decide_eq_true_iff.1 this.symm
          rw [HRL.out] at e2
          simp only [List.length_cons] at e2
          omega
        have hnb2 : D2.nb ≤ D2.nl := by have e1 : D2.nl = L.length := HL.out.1.nl; have : D2.nb ≤ L.length := HL.out.1.nb; omega
        have hkp := keep_any (c := ⟨cx.buf, cx.on, cx.ab, W.heap.size, m2, v3⟩) (hgc.grow hBB) (i := x) (abs_none (HL.out.1.out x hxL)) hlm2 (fun k hk => ?_) (by unfold chO; exact blk_new W _) (hst.kept (fun b hb => hBW.block b (hm2 b hb).2)) (row_same hro (fun k hk => hBW.block k (hv3 k hk).2.1)) (fun k e q => ?_) (fun k e q => ?_) (fun k e q => ?_) (wf_small hchs.1 HOK.out.big) hchs.2.1 (by have := HNL.out; omega) (by have := HNL.out; omega) (fun z hz => cp_room HOK.out HL.out.1 _ z hz)
        · refine hkp.mono ?_
          rintro e w' ⟨rfl, D3, k1, k2, _, k3⟩
          refine ⟨rfl, Hid.mk ⟨D3, k1.mono (fun k hk1 hk => ?_), k2, ?_⟩⟩
          · rcases hk with (hk | hk) | hk
            · exact (HG2.out.inF hk)
            · exact ⟨by omega, by omega⟩
            · rcases hk with hk | hk | hk
              · have hk : W.heap.size = k := hk
                exact ⟨by omega, by omega⟩
              · have := hm2 k hk
                exact ⟨by omega, by omega⟩
              · have := hv3 k hk
                exact ⟨by omega, by omega⟩
          · refine (Only.of_new (fun k => w.heap.size ≤ k ∧ k ≠ w.heap.size + 1) hBB).trans (T := OwnA w.heap.size D2) k3 (fun k hk => .inl ((HG2.out.inF hk)))
        · refine ⟨?_, fun hk2 => ?_⟩
          · rcases hk with hk | hk | hk
            · have hk : W.heap.size = k := hk
              omega
            · have := hm2 k hk
              omega
            · have := hv3 k hk
              omega
          · have := hown2 k hk2
            rcases hk with hk | hk | hk
            · have hk : W.heap.size = k := hk
              omega
            · have := hm2 k hk
              omega
            · have := hv3 k hk
              omega
        · have e : W.heap.size = k := e
          have := hm2 k q
          omega
        · have e : W.heap.size = k := e
          have := hv3 k q
          omega
        · exact (hv3 k q).2.2 e)
      have HRG := Hid.mk hrg
      have HLT := Hid.mk hlt
      have HB1 := Hid.mk hB1
      obtain ⟨cb, hcb⟩ : ∃ cb, cb = cx.cb := ⟨_, rfl⟩
      obtain ⟨bu, hbu⟩ : ∃ bu, bu = cx.buf := ⟨_, rfl⟩
      obtain ⟨av, hav⟩ : ∃ av, av = cx.av := ⟨_, rfl⟩
      have HCELL : Hid (∀ W, Below w1.heap.size w1 W → W.cell? ⟨cb, 0, none⟩ = some (.int .i64 x) ∧ W.cell? ⟨cb, 1, none⟩ = some (.int .i64 bu) ∧ W.cell? ⟨cb, 3, none⟩ = some av) := Hid.mk (fun W hB => by
        have hb : W.heap[cx.cb]? = some (chO x cx) := (hB.block _ (lt_of_block hcc)).trans hcc
        rw [hcb, hbu, hav]
        unfold chO at hb
        exact ⟨by rw [blk_cell hb]; rfl, by rw [blk_cell hb]; rfl, by rw [blk_cell hb]; rfl⟩)
      have HCELL2 : Hid (∀ W, Only (fun k => w.heap.size ≤ k ∧ k ≠ w.heap.size + 1) w1 W → W.cell? ⟨cb, 0, none⟩ = some (.int .i64 x) ∧ W.cell? ⟨cb, 1, none⟩ = some (.int .i64 bu) ∧ W.cell? ⟨cb, 3, none⟩ = some av) := Hid.mk (fun W hO => by
        have hlt : cx.cb < w.heap.size := HH.out.lt (n := .ch x) ⟨cx, hcx, rfl⟩
        have hb : W.heap[cx.cb]? = some (chO x cx) := (hO.block _ (lt_of_block hcc) (fun q => by have := q.1; omega)).trans hcc
        rw [hcb, hbu, hav]
        unfold chO at hb
        exact ⟨by rw [blk_cell hb]; rfl, by rw [blk_cell hb]; rfl, by rw [blk_cell hb]; rfl⟩)
      have HBD : Hid (Below w1.heap.size w1 w1.drew) := Hid.mk (drew_below w1)
      have hH : (fun W : World => W.cell? ⟨cb, 0, none⟩ = some (.int .i64 x) ∧ W.cell? ⟨cb, 1, none⟩ = some (.int .i64 bu) ∧ W.cell? ⟨cb, 3, none⟩ = some av) w1.drew := HCELL.out _ HBD.out
      have HRG1 := Hid.mk hrg1
      have HRGW : Hid (∀ W, Only (fun k => w.heap.size ≤ k ∧ k ≠ w.heap.size + 1) w1 W → W.ranges Try.prog 3 rawE lb (w.heap.size + 1) D.nl Dm (fun z => left z && !z.sameKey (.int .i64 x)) cnt1) := Hid.mk (fun W hO => ranges_at hrg1 (hO.block lb (by have := HS1.out; omega) (fun q => by have := q.1; omega)) (hO.block _ (by have := HS1.out; omega) (fun q => q.2 rfl)))
      rw [← hcb] at HCP
      rw [← hbu] at HKEEP
      rw [← hav] at HROW
      have hen' : (Instr.entry (.pointer (some ⟨w.heap.size + 1, 0, none⟩))).run Try.prog w1 = .ok (.tuple #[.int .i64 x, ptV cb]) w1 := by rw [hcb]; exact hen
      rw [← hcb]
      clear hxL hsame hgr hgc hB1 hcx hat hry hkx hlx hg1 hs1 hrg hlt hcc hcb hbu hav hen hrg1
      go_wp2
      refine wp_region_held_drew (S := fun W : World => W.cell? ⟨cb, 0, none⟩ = some (.int .i64 x) ∧ W.cell? ⟨cb, 1, none⟩ = some (.int .i64 bu) ∧ W.cell? ⟨cb, 3, none⟩ = some av) (by kernel_rfl) hH (fun hH => ?_)
      change wpAnyH Try.prog Region.Mode.any _ _ _ 21 _ _ _
      refine takeH 0 21 (ptV w.heap.size) rfl (by kernel_rfl) (by kernel_rfl) (by kernel_rfl) (by kernel_rfl) (fun _ _ _ h => h) (by kernel_rfl) (fun w hw => by kernel_rfl) hH ?_
      simp only [List.setIfInBounds_toArray, List.set_cons_zero, List.set_cons_succ]
      refine takeH 1 22 (.pointer (some ⟨cb, 0, none⟩)) rfl (by kernel_rfl) (by kernel_rfl) (by kernel_rfl) (by kernel_rfl) (fun _ _ _ h => h) (by kernel_rfl) (fun w hw => by kernel_rfl) hH ?_
      simp only [List.setIfInBounds_toArray, List.set_cons_zero, List.set_cons_succ]
      refine takeH 2 23 (.pointer (some ⟨cb, 0, none⟩)) rfl (by kernel_rfl) (by kernel_rfl) (by kernel_rfl) (by kernel_rfl) (fun _ _ _ h => h) (by kernel_rfl) (fun w hw => by go_simp) hH ?_
      simp only [List.setIfInBounds_toArray, List.set_cons_zero, List.set_cons_succ]
      refine takeH 3 24 (.pointer (some ⟨cb, 0, none⟩)) rfl (by kernel_rfl) (by kernel_rfl) (by kernel_rfl) (by kernel_rfl) (fun _ _ _ h => h) (by kernel_rfl) (fun w hw => by go_simp) hH ?_
      simp only [List.setIfInBounds_toArray, List.set_cons_zero, List.set_cons_succ]
      refine takeH 4 25 (.int .i64 x) rfl (by kernel_rfl) (by kernel_rfl) (by kernel_rfl) (by kernel_rfl) (fun _ _ _ h => h) (by kernel_rfl) (fun w hw => by ((try dsimp only at hw); obtain ⟨hw1, hw2, hw3⟩ := hw; go_simp)) hH ?_
      simp only [List.setIfInBounds_toArray, List.set_cons_zero, List.set_cons_succ]
      refine takeH 5 26 (.pointer (some ⟨cb, 0, none⟩)) rfl (by kernel_rfl) (by kernel_rfl) (by kernel_rfl) (by kernel_rfl) (fun _ _ _ h => h) (by kernel_rfl) (fun w hw => by kernel_rfl) hH ?_
      simp only [List.setIfInBounds_toArray, List.set_cons_zero, List.set_cons_succ]
      refine takeH 6 27 (.pointer (some ⟨cb, 0, none⟩)) rfl (by kernel_rfl) (by kernel_rfl) (by kernel_rfl) (by kernel_rfl) (fun _ _ _ h => h) (by kernel_rfl) (fun w hw => by go_simp) hH ?_
      simp only [List.setIfInBounds_toArray, List.set_cons_zero, List.set_cons_succ]
      refine takeH 7 28 (.pointer (some ⟨cb, 1, none⟩)) rfl (by kernel_rfl) (by kernel_rfl) (by kernel_rfl) (by kernel_rfl) (fun _ _ _ h => h) (by kernel_rfl) (fun w hw => by go_simp) hH ?_
      simp only [List.setIfInBounds_toArray, List.set_cons_zero, List.set_cons_succ]
      refine takeH 8 29 (.int .i64 bu) rfl (by kernel_rfl) (by kernel_rfl) (by kernel_rfl) (by kernel_rfl) (fun _ _ _ h => h) (by kernel_rfl) (fun w hw => by ((try dsimp only at hw); obtain ⟨hw1, hw2, hw3⟩ := hw; go_simp)) hH ?_
      simp only [List.setIfInBounds_toArray, List.set_cons_zero, List.set_cons_succ]
      refine takeH 9 30 (.pointer (some ⟨cb, 0, none⟩)) rfl (by kernel_rfl) (by kernel_rfl) (by kernel_rfl) (by kernel_rfl) (fun _ _ _ h => h) (by kernel_rfl) (fun w hw => by kernel_rfl) hH ?_
      simp only [List.setIfInBounds_toArray, List.set_cons_zero, List.set_cons_succ]
      refine takeH 10 31 (.pointer (some ⟨cb, 0, none⟩)) rfl (by kernel_rfl) (by kernel_rfl) (by kernel_rfl) (by kernel_rfl) (fun _ _ _ h => h) (by kernel_rfl) (fun w hw => by go_simp) hH ?_
      simp only [List.setIfInBounds_toArray, List.set_cons_zero, List.set_cons_succ]
      refine takeH 11 32 (.pointer (some ⟨cb, 2, none⟩)) rfl (by kernel_rfl) (by kernel_rfl) (by kernel_rfl) (by kernel_rfl) (fun _ _ _ h => h) (by kernel_rfl) (fun w hw => by go_simp) hH ?_
      simp only [List.setIfInBounds_toArray, List.set_cons_zero, List.set_cons_succ]
      refine takeH 13 34 (.pointer (some ⟨cb, 0, none⟩)) rfl (by kernel_rfl) (by kernel_rfl) (by kernel_rfl) (by kernel_rfl) (fun _ _ _ h => h) (by kernel_rfl) (fun w hw => by kernel_rfl) hH ?_
      simp only [List.setIfInBounds_toArray, List.set_cons_zero, List.set_cons_succ]
      refine takeH 14 35 (.pointer (some ⟨cb, 0, none⟩)) rfl (by kernel_rfl) (by kernel_rfl) (by kernel_rfl) (by kernel_rfl) (fun _ _ _ h => h) (by kernel_rfl) (fun w hw => by go_simp) hH ?_
      simp only [List.setIfInBounds_toArray, List.set_cons_zero, List.set_cons_succ]
      refine takeH 15 36 (.pointer (some ⟨cb, 3, none⟩)) rfl (by kernel_rfl) (by kernel_rfl) (by kernel_rfl) (by kernel_rfl) (fun _ _ _ h => h) (by kernel_rfl) (fun w hw => by go_simp) hH ?_
      simp only [List.setIfInBounds_toArray, List.set_cons_zero, List.set_cons_succ]
      refine takeH 16 37 (av) rfl (by kernel_rfl) (by kernel_rfl) (by kernel_rfl) (by kernel_rfl) (fun _ _ _ h => h) (by kernel_rfl) (fun w hw => by ((try dsimp only at hw); obtain ⟨hw1, hw2, hw3⟩ := hw; go_simp)) hH ?_
      simp only [List.setIfInBounds_toArray, List.set_cons_zero, List.set_cons_succ]
      refine stepH_call 12 33 rfl (by kernel_rfl) (by kernel_rfl) (by kernel_rfl) 44 #[.tmp 32] #[64] (by kernel_rfl) (enters_of Try.func44 (by kernel_rfl) rfl) #[.pointer (some ⟨cb, 2, none⟩)] (by kernel_rfl) HCP.out ?_
      rintro e w2 ⟨m2, rfl, H2⟩
      have HB2 := Hid.mk (HBD.out.trans (H2.out.2.1.mono HBD.out.size))
      have hH := HCELL.out _ HB2.out
      refine ⟨_, rfl, hH, ?_⟩
      simp only [List.setIfInBounds_toArray, List.set_cons_zero, List.set_cons_succ]
      refine stepH_call 17 38 rfl (by kernel_rfl) (by kernel_rfl) (by kernel_rfl) 45 #[.tmp 37] #[23] (by kernel_rfl) (enters_of Try.func45 (by kernel_rfl) rfl) #[av] (by kernel_rfl) (HROW.out w2 HB2.out) ?_
      rintro e w3 ⟨v3, rfl, H3⟩
      have HB3 := Hid.mk (HB2.out.trans (H3.out.2.mono HB2.out.size))
      have hH := HCELL.out _ HB3.out
      refine ⟨_, rfl, hH, ?_⟩
      simp only [List.setIfInBounds_toArray, List.set_cons_zero, List.set_cons_succ]
      obtain ⟨a3, c3, rfl, _⟩ := owns_lat H3.out.1
      refine takeH 18 39 (.agg #[.int .i64 x, .int .i64 bu, .map m2, .slice a3 cx.ab.length c3]) rfl (by kernel_rfl) (by kernel_rfl) (by kernel_rfl) (by kernel_rfl) (fun _ _ _ h => h) (by kernel_rfl) (fun w hw => by go_simp) hH ?_
      simp only [List.setIfInBounds_toArray, List.set_cons_zero, List.set_cons_succ]
      have hH := HCELL.out _ (HB3.out.trans ((((Below.refl _ w3).alloc (Nat.le_refl _) (.cells #[.int .i64 x, .int .i64 bu, .map m2, .slice a3 cx.ab.length c3] 77))).mono HB3.out.size))
      refine stepH_run 19 40 (ptV w3.heap.size) (w3.alloc (.cells #[.int .i64 x, .int .i64 bu, .map m2, .slice a3 cx.ab.length c3] 77)) rfl (by kernel_rfl) (by kernel_rfl) (by kernel_rfl) (by go_simp) hH ?_
      simp only [List.setIfInBounds_toArray, List.set_cons_zero, List.set_cons_succ]
      have HK := HKEEP.out w3 m2 (.slice a3 cx.ab.length c3) HB3.out (H2.out.1.kept (fun k q => H3.out.2.block k (H2.out.2.2 k q).2)) (fun k q => ⟨Nat.le_trans HBD.out.size (H2.out.2.2 k q).1, Nat.lt_of_lt_of_le (H2.out.2.2 k q).2 H3.out.2.size⟩) (owns_base H3.out.1 (Nat.zero_le _)) (fun k q => by
        have q1 := H3.out.1.lt k q
        have q2 := HB2.out.size
        refine ⟨by omega, q1.2, fun e => ?_⟩
        have := (H2.out.2.2 k e).2
        omega)
      refine stepH_call 20 41 rfl (by kernel_rfl) (by kernel_rfl) (by kernel_rfl) 43 #[.tmp 21, .tmp 40] #[26, 56] (by kernel_rfl) (enters_of Try.func43 (by kernel_rfl) rfl) #[ptV w.heap.size, ptV w3.heap.size] (by kernel_rfl) HK ?_
      rintro e w5 ⟨rfl, H5⟩
      obtain ⟨D3, k1, k2, k3⟩ := H5.out
      have hH := HCELL2.out _ k3
      refine ⟨_, rfl, hH, ?_⟩
      simp only [List.setIfInBounds_toArray, List.set_cons_zero, List.set_cons_succ]
      have HRG5 := Hid.mk (HRGW.out _ k3)
      have HG5 : Hid (GrAt (fun k => w.heap.size ≤ k ∧ k ≠ w.heap.size + 1) w5 w.heap.size D3) := Hid.mk k1
      have HB5 : Hid (Below w.heap.size w w5 ∧ w.heap.size + 2 ≤ w5.heap.size) := Hid.mk ⟨HB1.out.trans (k3.below (by have := HS1.out; omega) (fun k q => q.1)), Nat.le_trans HS1.out k3.size⟩
      have HF5 : Hid (CpI D.abs (x :: L) D3.abs ∧ ∀ z, z ∈ x :: L ↔ (D.ch z).isSome = true ∧ (left (.int .i64 z) && !(Lit.int .i64 z).sameKey (.int .i64 x)) = false) := Hid.mk (by rw [k2]; exact HFIN.out)
      clear k1 k2 k3 H5
      refine wpAnyH_done (by kernel_rfl) ?_ _
      go_wp2
      go_roundw
      case rel => exact ⟨_, cnt1, x :: L, D3, HRG5.out, HG5, HB5, HF5⟩
      case measure => (rw [HRG5.out.left_eq, HRG.out.left_eq]; exact HLT.out)
set_option maxRecDepth 100000 in
set_option maxHeartbeats 4000000 in
theorem copy_nil (h : GrAt F w g D) (hlm : D.lm = none) :
    Calls Try.prog 26 #[ptV g] w fun e w' => ∃ gc D' L, e = .returned (ptV gc) ∧ Hid (GrAt (fun k => w.heap.size ≤ k) w' gc D' ∧ Below w.heap.size w w' ∧ CpI D.abs L D'.abs ∧ (∀ i, (D.abs.ch i).isSome = true → i ∈ L) ∧ L.length = D.nl) := by
  obtain ⟨g0, g1, _, _⟩ := h.cellsG
  rw [hlm] at g1
  have hm : MapAt w D.lm D.nl (leftF D.ch) := h.cont .left
  rw [hlm] at hm
  obtain ⟨hm0, hm1⟩ := hm
  have HM0 := Hid.mk hm0
  have HCH : Hid (∀ i, D.ch i = none) := Hid.mk (fun i => by
    have := hm1 (.int .i64 i)
    have h2 : (D.ch i).map (fun c => ptV c.cb) = none := this
    cases hc : D.ch i with
    | none => rfl
    | some c => rw [hc] at h2; cases h2)
  obtain ⟨ad, had⟩ : ∃ ad, ad = D.added := ⟨_, rfl⟩
  rw [← had] at g0
  have HAD := Hid.mk had
  have hBA : Below w.heap.size w (w.alloc (.cells #[.int .i64 (ad : Nat), .map none, .map none] 60)) := (Below.refl _ w).alloc (Nat.le_refl _) _
  have g1A : (w.alloc (.cells #[.int .i64 (ad : Nat), .map none, .map none] 60)).cell? ⟨g, 1, none⟩ = some (.map none) := (World.cell?_of_block (w := w) (hBA.block g (h.lt (n := .g) rfl))).trans g1
  have HNEW := Hid.mk (new_at (w := w) ad (blk_new w (.cells #[.int .i64 (ad : Nat), .map none, .map none] 60)) (by simp))
  have HBA := Hid.mk hBA
  have hrg := run_range_nilMap (P := Try.prog) (w.alloc (.cells #[.int .i64 (ad : Nat), .map none, .map none] 60)) 57 _ _ Try.underlying57
  have hnx : ∀ ty, (Instr.next (.pointer (some ⟨(w.alloc (.cells #[.int .i64 (ad : Nat), .map none, .map none] 60)).heap.size, 0, none⟩)) false ty).run Try.prog ((w.alloc (.cells #[.int .i64 (ad : Nat), .map none, .map none] 60)).alloc (.mapIter none 0 #[] 0)) = _ := fun ty => run_next_nilMap _ ty 0 0 #[]
  rw [World.size_alloc] at hrg hnx
  clear h hBA hm1 hm0 had
  go_enter Try.func26, Try.ntmps26
  go_wp2
  refine wp_loop_rounds 1 ?_
  rw [rounds_succ]
  go_wp2
  go_ret
  have hB2 : Below (w.alloc (.cells #[.int .i64 (ad : Nat), .map none, .map none] 60)).heap.size (w.alloc (.cells #[.int .i64 (ad : Nat), .map none, .map none] 60)) ((w.alloc (.cells #[.int .i64 (ad : Nat), .map none, .map none] 60)).alloc (.mapIter none 0 #[] 0)) := (Below.refl _ _).alloc (Nat.le_refl _) _
  refine ⟨_, _, [], rfl, Hid.mk ⟨(HNEW.out.grow hB2).mono (fun k _ q => q.1), HBA.out.trans (hB2.mono (by simp)), cp_none HAD.out (fun _ => rfl) (fun _ => rfl) rfl rfl rfl rfl, fun i q => ?_, HM0.out.symm⟩⟩
  have h2 : ((D.ch i).map Cx.dat).isSome = true := q
  rw [HCH.out i] at h2
  cases h2
theorem copy_any (h : GrAt F w g D) (ok : D.abs.Ok) (hab : ∀ y c, D.ch y = some c → c.ab.length ≤ 900000) (hnl : D.nl < 1000000) (R : List Int) (hR : KeyL (leftF D.ch) R) :
    Calls Try.prog 26 #[ptV g] w fun e w' => ∃ gc D' L, e = .returned (ptV gc) ∧ Hid (GrAt (fun k => w.heap.size ≤ k) w' gc D' ∧ Below w.heap.size w w' ∧ CpI D.abs L D'.abs ∧ (∀ i, (D.abs.ch i).isSome = true → i ∈ L) ∧ L.length = D.nl) := by
  cases hl : D.lm with
  | none => exact copy_nil h hl
  | some lb => exact copy_some h hl ok hab hnl R hR
end
end Go.Proofs.Ythmbhcmicebcpaa
