/-
  Two graphs and the reference's side by side.
-/
import Derived.Test.YthmbhcmicebcpaaLayCp
import Derived.Test.YthmbhcmicebcpaaDpPl
namespace Go.Proofs.Ythmbhcmicebcpaa
open Go Go.Proofs Go.RowKit Go.Shelf
section
variable {F X : Nat → Prop} {w W W' : World} {g c r : Nat} {v : Value} {D : Gd} {G Gg : Gp} {A Ag Ac : Ga}
theorem GrAt.keepH (h : GrAt F W g D) (hs : W.heap.size ≤ W'.heap.size) (hk : ∀ k, F k → k < W.heap.size → W'.heap[k]? = W.heap[k]?) : GrAt F W' g D :=
  ⟨fun n k q => ⟨(h.own n k q).1, Nat.lt_of_lt_of_le (h.own n k q).2 hs⟩, h.sep, fun n => (h.cont n).kept (fun k q => hk k (h.own n k q).1 (h.own n k q).2)⟩
/-- A drained graph's copy, to which nothing was added yet. -/
structure Dra (G : Gp) (A : Ga) : Prop where
  c0 : cnt G = 0
  ad : A.added = G.n
  ch : ∀ i, A.ch i = none
  bf : ∀ b, A.bf b = none
  nl : A.nl = 0
  nb : A.nb = 0
  ml : A.ml = false
  mb : A.mb = false
def RelC (G : Gp) (A : Ga) : Prop := Rel G A ∨ Dra G A
theorem relc_copy {L : List Int} {B : Ga} (hR : Rel G A) (h : CpI A L B) (hall : ∀ i, (A.ch i).isSome = true → i ∈ L) (hl : L.length = A.nl) : RelC G B := by
  rcases Nat.eq_zero_or_pos L.length with h0 | h0
  · have hL : L = [] := List.eq_nil_of_length_eq_zero h0
    subst hL
    refine .inr ⟨by rw [← hR.nl, ← hl]; rfl, h.ad.trans hR.ad, fun i => h.out i (by simp), fun b => ?_, h.nl, Nat.le_zero.1 h.nb, h.ml, h.mb⟩
    cases hb : B.bf b with
    | none => rfl
    | some x =>
      obtain ⟨⟨_, q1⟩, ⟨_, q2⟩, q3⟩ := h.bf b x hb
      have e1 : x.nx = [] := by
        cases hx : x.nx with
        | nil => rfl
        | cons i _ => have := ((q1 i).1 (by rw [hx]; simp)).1; cases this
      have e2 : x.bl = [] := by
        cases hx : x.bl with
        | nil => rfl
        | cons i _ => have := ((q2 i).1 (by rw [hx]; simp)).1; cases this
      rw [e1, e2] at q3
      exact absurd rfl q3
  · exact .inl (rel_copy hR h hall hl h0)
theorem cnt_zero (h : cnt G = 0) (j : Nat) (hj : j < G.n) : G.dn j = true := by
  cases hd : G.dn j with
  | true => rfl
  | false =>
    have : j ∈ (List.range G.n).filter (fun j => !G.dn ((j : Nat) : Int)) := List.mem_filter.2 ⟨List.mem_range.2 hj, by simp [hd]⟩
    have := List.length_pos_of_mem this
    unfold cnt at h
    omega
theorem buf_nil {p : Nat → Bool} (h : ∀ j, j < G.n → p j = false) : bufP G p G.n = [] := by
  cases hh : bufP G p G.n with
  | nil => rfl
  | cons x _ =>
    have : x ∈ bufP G p G.n := by rw [hh]; simp
    obtain ⟨j, q1, q2, _⟩ := bufP_mem.1 this
    rw [h j q1] at q2
    cases q2
theorem dra_nil (h : Dra G A) : bufP G (undB G) G.n = [] ∧ bufP G (fun j => mayB G j) G.n = [] :=
  ⟨buf_nil (fun j hj => by unfold undB; rw [cnt_zero h.c0 j hj]; rfl), buf_nil (fun j hj => by unfold mayB; rw [cnt_zero h.c0 j hj]; simp)⟩
theorem left_key {D : Gd} (hR : Rel G D.abs) (hn : G.n ≤ 900000) : KeyL (leftF D.ch) (pick (undB G) G.n) := by
  refine ⟨⟨pick_pw _ _, fun x hx => ?_⟩, fun x => ?_⟩
  · obtain ⟨j, rfl, q1, q2⟩ := pick_mem.1 hx
    exact wf_small (n := 900000) ⟨by omega, by omega⟩ (by omega)
  · rw [left_is]
    have e : (D.ch x).isSome = (D.abs.ch x).isSome := by show _ = ((D.ch x).map Cx.dat).isSome; rw [Option.isSome_map]
    rw [e]
    have hc := hR.h.ch x
    cases hq : (D.abs.ch x).isSome with
    | true =>
      obtain ⟨q1, q2⟩ := hc.1 hq
      symm
      rw [decide_eq_true_eq, pick_mem]
      refine ⟨x.toNat, by omega, by omega, ?_⟩
      unfold undB
      rw [show ((x.toNat : Nat) : Int) = x by omega, q2]
      rfl
    | false =>
      symm
      rw [decide_eq_false_iff_not, pick_mem]
      rintro ⟨j, rfl, q1, q2⟩
      rw [hc.2 ⟨⟨by omega, by omega⟩, by simpa [undB] using q2⟩] at hq
      cases hq
/-- Two graphs of the program's and the reference's, each with its own blocks. -/
def Tw (w W : World) (g c r : Nat) (v : Value) (G : Gp) (Ag Ac : Ga) : Prop := ∃ (Fg Fc Fr : Nat → Prop) (Dg Dc : Gd), GrAt Fg W g Dg ∧ Dg.abs = Ag ∧ GrAt Fc W c Dc ∧ Dc.abs = Ac ∧ RgAt Fr W r v G ∧ Below w.heap.size w W ∧ (∀ k, Fg k ∨ Fc k ∨ Fr k → w.heap.size ≤ k ∧ k < W.heap.size) ∧ (∀ k, Fg k → ¬ Fc k ∧ ¬ Fr k) ∧ ∀ k, Fc k → ¬ Fr k
theorem Tw.bel (h : Tw w W g c r v G Ag Ac) : Below w.heap.size w W := by obtain ⟨_, _, _, _, _, _, _, _, _, _, h, _⟩ := h; exact h
theorem Tw.grow (h : Tw w W g c r v G Ag Ac) (hB : Below W.heap.size W W') : Tw w W' g c r v G Ag Ac := by
  obtain ⟨Fg, Fc, Fr, Dg, Dc, h1, h2, h3, h4, h5, h6, h7, h8, h9⟩ := h
  exact ⟨Fg, Fc, Fr, Dg, Dc, h1.grow hB, h2, h3.grow hB, h4, h5.below hB, h6.trans (hB.mono h6.size), fun k q => ⟨(h7 k q).1, Nat.lt_of_lt_of_le (h7 k q).2 hB.size⟩, h8, h9⟩
theorem Tw.ref (h : Tw w W g c r v G Ag Ac) : ∃ Fr, RgAt Fr W r v G := by obtain ⟨_, _, Fr, _, _, _, _, _, _, h, _⟩ := h; exact ⟨Fr, h⟩
/-- The first graph, with the others beside it, and back. -/
theorem Tw.onG (h : Tw w W g c r v G Ag Ac) : ∃ X, DpO X w W g Ag ∧ ∀ W' Ag', DpO X w W' g Ag' → W.heap.size ≤ W'.heap.size → (∀ k, X k → W'.heap[k]? = W.heap[k]?) → Tw w W' g c r v G Ag' Ac := by
  obtain ⟨Fg, Fc, Fr, Dg, Dc, h1, h2, h3, h4, h5, h6, h7, h8, h9⟩ := h
  refine ⟨fun k => Fc k ∨ Fr k, ⟨Dg, h1.mono (fun k _ q => ⟨(h7 k (.inl q)).1, fun e => e.elim (h8 k q).1 (h8 k q).2⟩), h2, h6, fun k q => h7 k (.inr q)⟩, fun W' Ag' hd hs hk => ?_⟩
  obtain ⟨D', d1, d2, d3, d4⟩ := hd
  refine ⟨OwnA g D', Fc, Fr, D', Dc, d1.tight, d2, h3.keepH hs (fun k q _ => hk k (.inl q)), h4, h5.keep hs (fun k q _ => hk k (.inr q)), d3, fun k q => ?_, fun k q => ?_, h9⟩
  · rcases q with q | q
    · obtain ⟨n, hn⟩ := q
      exact ⟨(d1.own n k hn).1.1, (d1.own n k hn).2⟩
    · exact ⟨(h7 k (.inr q)).1, Nat.lt_of_lt_of_le (h7 k (.inr q)).2 hs⟩
  · obtain ⟨n, hn⟩ := q
    have := (d1.own n k hn).1.2
    exact ⟨fun e => this (.inl e), fun e => this (.inr e)⟩
/-- The second graph. -/
theorem Tw.onC (h : Tw w W g c r v G Ag Ac) : ∃ X, DpO X w W c Ac ∧ ∀ W' Ac', DpO X w W' c Ac' → W.heap.size ≤ W'.heap.size → (∀ k, X k → W'.heap[k]? = W.heap[k]?) → Tw w W' g c r v G Ag Ac' := by
  obtain ⟨Fg, Fc, Fr, Dg, Dc, h1, h2, h3, h4, h5, h6, h7, h8, h9⟩ := h
  refine ⟨fun k => Fg k ∨ Fr k, ⟨Dc, h3.mono (fun k _ q => ⟨(h7 k (.inr (.inl q))).1, fun e => e.elim (fun e => (h8 k e).1 q) (h9 k q)⟩), h4, h6, fun k q => h7 k (q.elim .inl (fun e => .inr (.inr e)))⟩, fun W' Ac' hd hs hk => ?_⟩
  obtain ⟨D', d1, d2, d3, d4⟩ := hd
  have hO : ∀ k, OwnA c D' k → (w.heap.size ≤ k ∧ ¬ (Fg k ∨ Fr k)) ∧ k < W'.heap.size := fun k q => by
    obtain ⟨n, hn⟩ := q
    exact d1.own n k hn
  refine ⟨Fg, OwnA c D', Fr, Dg, D', h1.keepH hs (fun k q _ => hk k (.inl q)), h2, d1.tight, d2, h5.keep hs (fun k q _ => hk k (.inr q)), d3, fun k q => ?_, fun k q => ⟨fun e => (hO k e).1.2 (.inl q), (h8 k q).2⟩, fun k q e => (hO k q).1.2 (.inr e)⟩
  rcases q with q | q | q
  · exact ⟨(h7 k (.inl q)).1, Nat.lt_of_lt_of_le (h7 k (.inl q)).2 hs⟩
  · exact ⟨(hO k q).1.1, (hO k q).2⟩
  · exact ⟨(h7 k (.inr (.inr q))).1, Nat.lt_of_lt_of_le (h7 k (.inr (.inr q))).2 hs⟩
/-- Copy. -/
theorem tw_copy (h : Bo (fun _ => False) w W g r v G A) (hR : Rel G A) (hG : G.Ok) (hn : G.n ≤ 150) : Calls Try.prog 26 #[ptV g] W fun e W' => ∃ c, e = .returned (ptV c) ∧ Hid (∃ Ac, Tw w W' g c r v G A Ac ∧ RelC G Ac) := by
  obtain ⟨Fr, ⟨D, d1, rfl, d3, d4⟩, h2, _⟩ := h
  have hf := rel_fit hR hG (by omega)
  refine (copy_any d1 hf.ok (fun y c hc => hf.ab y c.dat (abs_some hc)) hf.nl _ (left_key hR (by omega))).mono ?_
  rintro e W' ⟨c, Dc, L, rfl, HQ⟩
  obtain ⟨q1, q2, q3, q4, q5⟩ := HQ.out
  have hs := q2.size
  have hb := d3.size
  refine ⟨c, rfl, Hid.mk ⟨Dc.abs, ⟨OwnA g D, OwnA c Dc, fun k => Fr k ∧ k < W.heap.size, D, Dc, (d1.grow q2).tight, rfl, q1.tight, rfl, (h2.mono (fun k hl q => ⟨q, hl⟩)).below q2, d3.trans (q2.mono hb), fun k q => ?_, fun k q => ⟨fun e => ?_, fun e => ?_⟩, fun k q e => ?_⟩, relc_copy hR q3 q4 q5⟩⟩
  · rcases q with ⟨n, q⟩ | ⟨n, q⟩ | q
    · exact ⟨(d1.own n k q).1.1, Nat.lt_of_lt_of_le (d1.own n k q).2 hs⟩
    · exact ⟨by have := (q1.own n k q).1; omega, (q1.own n k q).2⟩
    · have := d4 k (.inl q.1)
      exact ⟨this.1, by omega⟩
  · obtain ⟨n, q⟩ := q
    obtain ⟨n', e⟩ := e
    have := (q1.own n' k e).1
    have := (d1.own n k q).2
    omega
  · obtain ⟨n, q⟩ := q
    exact (d1.own n k q).1.2 (.inl e.1)
  · obtain ⟨n, q⟩ := q
    have := (q1.own n k q).1
    have := e.2
    omega
theorem any_no {n : Nat} {xs : List Int} (h : xs.any (noneB n) = false) : ∀ x ∈ xs, 0 ≤ x ∧ x < (n : Int) := fun x hx => by
  have := List.any_eq_false.1 h x hx
  unfold noneB at this
  simp at this
  omega
theorem tw_add (h : Tw w W g c r v G Ag Ac) (hR : Rel Gg Ag) (hG : Gg.Ok) (hn : Gg.n < 800000) (b : Int) (hwb : (Lit.int .i64 b).wf = true) (ao : Option Addr) (m cc : Nat) (xs : List Int) (hx : LAt w ao m xs) (hm : m < 1000000) :
    Calls Try.prog 27 #[ptV g, .int .i64 b, .slice ao m cc] W fun e W' => ∃ u, e = .returned u ∧ Hid (∃ Gg' Ag', Tw w W' g c r v G Ag' Ac ∧ Rel Gg' Ag' ∧ Gg'.Ok ∧ Gg'.n ≤ Gg.n + 1) := by
  have hxW := hx.next h.bel
  cases hany : xs.any (noneB Gg.n) with
  | true =>
    have h0 := h
    obtain ⟨Fg, Fc, Fr, Dg, Dc, h1, h2, _⟩ := h
    have had : Dg.added = Gg.n := by rw [← hR.ad, ← h2]; rfl
    refine (add_no h1 b ao m cc xs hxW (by omega) (by rw [had]; exact hany)).mono ?_
    rintro e W' ⟨rfl, rfl⟩
    exact ⟨_, rfl, Hid.mk ⟨Gg, Ag, h0, hR, hG, by omega⟩⟩
  | false =>
    obtain ⟨X, ho, hback⟩ := h.onG
    have ho0 := ho
    obtain ⟨D, d1, d2, d3, d4⟩ := ho
    have hf := rel_fit hR hG (by omega)
    subst d2
    refine (add_yes d1 hf.ok hf.mm b hwb ao m cc xs hxW hm (fun a e q => ?_) (by have : D.added = Gg.n := hR.ad; rw [this]; exact hany) hf.ab hf.nl hf.nb hf.ad).mono ?_
    · obtain ⟨a', e', hl, _⟩ := hx.2 q
      rw [e] at e'
      cases e'
      exact ⟨Nat.lt_of_lt_of_le hl h.bel.size, fun q => by have := q.1; omega⟩
    · rintro e W' ⟨rfl, D', hg, ha, hO⟩
      obtain ⟨q1, q2⟩ := DpO.next' hg ha ho0 hO
      refine ⟨_, rfl, Hid.mk ⟨Gg.add b xs, _, hback W' _ q1 hO.size q2, rel_add' hR hG b xs (any_no hany), ok_add hG hwb (any_no hany), Nat.le_refl _⟩⟩
theorem tw_written (h : Tw w W g c r v G Ag Ac) (hR : Rel Gg Ag) (hG : Gg.Ok) (hn : Gg.n < 800000) (b : Int) (hwb : (Lit.int .i64 b).wf = true) :
    Calls Try.prog 25 #[ptV g, .int .i64 b] W fun e W' => ∃ u, e = .returned u ∧ Hid (∃ Gg' Ag', Tw w W' g c r v G Ag' Ac ∧ Rel Gg' Ag' ∧ Gg'.Ok ∧ Gg'.n ≤ Gg.n + 1) := by
  obtain ⟨X, ho, hback⟩ := h.onG
  refine (r_written2 ho hR hG (by omega) hwb).mono ?_
  rintro e W' ⟨u, rfl, _, q2, q3, q4⟩
  exact ⟨u, rfl, Hid.mk ⟨_, _, hback W' _ q2 q3 q4, rel_written hR b, ok_fins hG _, by rw [(fins_same _).1]; omega⟩⟩
theorem tw_left (h : Tw w W g c r v G Ag Ac) : Calls Try.prog 13 #[ptV g] W fun e W' => e = .returned (.int .i64 (Ag.nl : Nat)) ∧ W' = W := by
  obtain ⟨X, ho, _⟩ := h.onG
  exact o_left ho
theorem tw_cleft (h : Tw w W g c r v G Ag Ac) (hC : RelC G Ac) : Calls Try.prog 13 #[ptV c] W fun e W' => e = .returned (.int .i64 (cnt G : Nat)) ∧ W' = W := by
  obtain ⟨X, ho, _⟩ := h.onC
  have := o_left ho
  rcases hC with hC | hC
  · rw [hC.nl] at this
    exact this
  · rw [hC.nl, ← hC.c0] at this
    exact this
theorem tw_cbufs (h : Tw w W g c r v G Ag Ac) (hC : RelC G Ac) (hG : G.Ok) (hn : G.n ≤ 150) : Calls Try.prog 20 #[ptV c] W fun e W' => ∃ u, e = .returned u ∧ Hid (W'.ownsRow W.heap.size 3 1 u (bufP G (undB G) G.n).length (Iy (bufP G (undB G) G.n)) ∧ Below W.heap.size W W') := by
  obtain ⟨X, ho, _⟩ := h.onC
  rcases hC with hC | hC
  · exact r_bufs ho hC hG (by omega)
  · rw [(dra_nil hC).1]
    obtain ⟨D, h1, h2, h3, h4⟩ := ho
    subst h2
    have hK : KeyL (bufF D.bf) [] := ⟨⟨List.Pairwise.nil, fun x q => by cases q⟩, fun x => by
      show ((D.bf x).map _).isSome = _
      rw [Option.isSome_map]
      have h2 : (D.bf x).map Bx.dat = none := hC.bf x
      cases hq : D.bf x with
      | none => rfl
      | some y => rw [hq] at h2; cases h2⟩
    have hm : MapAt W D.bm D.nb (bufF D.bf) := h1.cont .bufs
    have hl := map_len hm hK
    rw [← hl] at hm
    refine (bufs_map W c D.bm _ _ h1.cellsG.2.2.1 hm hK (by simp)).mono ?_
    rintro e W' ⟨u, rfl, q1, _, q2⟩
    exact ⟨u, rfl, Hid.mk ⟨q1, q2⟩⟩
theorem tw_cready (h : Tw w W g c r v G Ag Ac) (hC : RelC G Ac) (hG : G.Ok) (hn : G.n ≤ 150) : Calls Try.prog 22 #[ptV c] W fun e W' => ∃ u, e = .returned u ∧ Hid (W'.ownsRow W.heap.size 3 1 u (bufP G (fun j => mayB G j) G.n).length (Iy (bufP G (fun j => mayB G j) G.n)) ∧ Below W.heap.size W W') := by
  obtain ⟨X, ho, _⟩ := h.onC
  rcases hC with hC | hC
  · exact r_ready2 ho hC hG (by omega)
  · rw [(dra_nil hC).2]
    obtain ⟨D, h1, h2, h3, h4⟩ := ho
    subst h2
    have hb : D.bm = none := by
      have h9 : D.bm.isSome = false := hC.mb
      cases hb : D.bm with
      | none => rfl
      | some b => rw [hb] at h9; cases h9
    refine (ready_nil h1 hb).mono ?_
    rintro e W' ⟨u, rfl, q1, q2⟩
    exact ⟨u, rfl, Hid.mk ⟨q1, q2⟩⟩
theorem tw_cwritten (h : Tw w W g c r v G Ag Ac) (hC : RelC G Ac) (hG : G.Ok) (hn : G.n ≤ 150) (b : Int) (hwb : (Lit.int .i64 b).wf = true) :
    Calls Try.prog 25 #[ptV c, .int .i64 b] W fun e W' => ∃ u, e = .returned u ∧ Hid (∃ Gc Ac', Tw w W' g c r v G Ag Ac' ∧ RelC Gc Ac' ∧ Gc.Ok ∧ Gc.n ≤ 150) := by
  obtain ⟨X, ho, hback⟩ := h.onC
  rcases hC with hC | hC
  · refine (r_written2 ho hC hG (by omega) hwb).mono ?_
    rintro e W' ⟨u, rfl, _, q2, q3, q4⟩
    exact ⟨u, rfl, Hid.mk ⟨_, _, hback W' _ q2 q3 q4, .inl (rel_written hC b), ok_fins hG _, by rw [(fins_same _).1]; exact hn⟩⟩
  · refine (o_written2 ho hwb (S := []) (by rw [hC.bf b]; rfl) List.Pairwise.nil (by simp) (fun k hk => by simp at hk) (fun j hj => by simp at hj)).mono ?_
    rintro e W' ⟨u, rfl, _, q2, q3, q4⟩
    exact ⟨u, rfl, Hid.mk ⟨G, _, hback W' _ q2 q3 q4, .inr hC, hG, hn⟩⟩
theorem tw_cadd (h : Tw w W g c r v G Ag Ac) {Gc : Gp} (hC : RelC Gc Ac) (hG : Gc.Ok) (hn : Gc.n ≤ 150) (b : Int) (hwb : (Lit.int .i64 b).wf = true) :
    Calls Try.prog 27 #[ptV c, .int .i64 b, .slice none 0 0] W fun e W' => ∃ u, e = .returned u ∧ Hid (∃ Ac', Tw w W' g c r v G Ag Ac') := by
  obtain ⟨X, ho, hback⟩ := h.onC
  have hf : Ac.Fit := by
    rcases hC with hC | hC
    · exact rel_fit hC hG (by omega)
    · exact ⟨⟨by rw [hC.ad]; omega, fun i c q => (by rw [hC.ch] at q; cases q), fun b x q => (by rw [hC.bf] at q; cases q)⟩, by rw [hC.ml, hC.mb], by rw [hC.nl]; omega, by rw [hC.nb]; omega, by rw [hC.ad]; omega, fun y c q => (by rw [hC.ch] at q; cases q)⟩
  refine (o_add2 ho hf b hwb none 0 0 [] ⟨rfl, fun q => absurd q (Nat.lt_irrefl 0)⟩ (by omega) (fun a e q => absurd q (Nat.lt_irrefl 0)) rfl).mono ?_
  rintro e W' ⟨rfl, q2, q3, q4⟩
  exact ⟨_, rfl, Hid.mk ⟨_, hback W' _ q2 q3 q4⟩⟩
end
end Go.Proofs.Ythmbhcmicebcpaa
namespace Go.Proofs.Ythmbhcmicebcpaa
open Go Go.Proofs Go.RowKit Go.Shelf
attribute [local go_sem] Oper.semAt_some
theorem same3 {W1 W2 W : World} {a b : Option Addr} {n c d : Nat} {L : List Int} (h1 : LAt W1 a n L) (h2 : LAt W2 b n L) (q1 : Below W1.heap.size W1 W) (q2 : Below W2.heap.size W2 W) (hn : n ≤ 150) : Calls Try.prog 15 #[.slice a n c, .slice b n d] W fun e W' => e = .returned (.bool true) ∧ Below W.heap.size W W' := by
  have := sameints_any W a b n n c d L L (h1.next q1) (h2.next q2) (by omega) (by omega)
  rw [decide_eq_true rfl] at this
  exact this
theorem gives_row {f : Nat} {args : Array Value} {L : List Int} {W : World} (h : Calls Try.prog f args W fun e W' => ∃ u, e = .returned u ∧ Hid (W'.ownsRow W.heap.size 3 1 u L.length (Iy L) ∧ Below W.heap.size W W')) : Calls Try.prog f args W fun e W' => ∃ a c, e = .returned (.slice a L.length c) ∧ Hid (LAt W' a L.length L ∧ Below W.heap.size W W') := h.mono (by
  rintro e W' ⟨u, rfl, HQ⟩
  obtain ⟨a, c, rfl, hla⟩ := owns_lat HQ.out.1
  exact ⟨a, c, rfl, Hid.mk ⟨hla, HQ.out.2⟩⟩)
set_option maxRecDepth 100000 in
set_option maxHeartbeats 16000000 in
theorem dcopy_any (w : World) (ao : Option Addr) (n cc : Nat) (V : Nat → ActV) (hV : ActsAt w ao n V) (hn : n ≤ 9223372036854775807) (ap : Option Addr) (np cp : Nat) (V2 : Nat → ActV) (hV2 : ActsAt w ap np V2) (hnp : np ≤ 9223372036854775807) (b : Int) (hwb : (Lit.int .i64 b).wf = true) : Calls Try.prog 5 #[.slice ao n cc, .slice ap np cp, .int .i64 b] w fun e w' => e = .returned (.bool true) ∧ Below w.heap.size w w' := by
  have HAL := Hid.mk (alive_any w)
  have hbig : ∀ (ao : Option Addr) (n cc : Nat) (V : Nat → ActV), ActsAt w ao n V → n ≤ 9223372036854775807 → ∀ W, Below w.heap.size w W → Calls Try.prog 10 #[.slice ao n cc] W fun e W' => BigTo n V e ∧ W' = W := fun ao n cc V hV hn W hB => big_any W ao n cc V (fun h0 => by
    obtain ⟨ab, off, e, hl, hc⟩ := hV h0
    refine ⟨ab, off, e, Nat.lt_of_lt_of_le hl hB.size, fun j hj => ?_⟩
    obtain ⟨ab', off', e', _, h⟩ := acts_at hV hB hj
    rw [e] at e'
    cases e'
    exact h) hn
  have HBIG := Hid.mk (hbig ao n cc V hV hn)
  have HBIG2 := Hid.mk (hbig ap np cp V2 hV2 hnp)
  have HBOTH : Hid (∀ W, Below w.heap.size w W → (n ≤ 150 ∧ ∀ j, j < n → (V j).m ≤ 1000) → Calls Try.prog 11 #[.slice ao n cc] W fun e w' => ∃ g r, e = .returned (.tuple #[ptV g, ptV r, .bool true]) ∧ Hid (BothTo W n g r w' ∧ Below w.heap.size w W ∧ n ≤ 150)) := Hid.mk (fun W hB hb => by
    refine (both_any w W hB ao n cc V hV hb.1 hb.2).mono ?_
    rintro e w' ⟨g, r, rfl, HQ⟩
    exact ⟨g, r, rfl, Hid.mk ⟨HQ.out, hB, hb.1⟩⟩)
  have HV : Hid (∀ W j, Below w.heap.size w W → j < np → ∃ ab off, ap = some ⟨ab, off, none⟩ ∧ (W.cell? ⟨ab, off + j * 3, none⟩ = some (.int .i64 (V2 j).way) ∧ W.cell? ⟨ab, off + j * 3 + 1, none⟩ = some (.int .i64 (V2 j).buf) ∧ W.cell? ⟨ab, off + j * 3 + 2, none⟩ = some (.slice (V2 j).ao (V2 j).m (V2 j).cc)) ∧ LAt w (V2 j).ao (V2 j).m (V2 j).xs ∧ (Lit.int .i64 (V2 j).buf).wf = true) := Hid.mk (fun W j hB hj => by
    obtain ⟨ab, off, e, _, h1, _, h3, _⟩ := acts_at hV2 hB hj
    obtain ⟨_, _, _, _, _, h2, _⟩ := acts_at hV2 (Below.refl _ w) hj
    exact ⟨ab, off, e, h1, h2, h3⟩)
  have HWB := Hid.mk hwb
  clear hV hV2 hbig hn hnp hwb
  go_enter Try.func5, Try.ntmps5
  go_upto_region 2 with (first
    | (go_at_call 9; refine HAL.out.mono ?_; rintro e w1 ⟨rfl, hb1⟩; have HB1 := Hid.mk hb1; clear hb1 HAL)
    | go_in)
  go_cut [8] from 16 to 21 (fun v W => ∃ bg : Bool, v = .bool bg ∧ Hid (W = w1 ∧ (bg = false → (n ≤ 150 ∧ ∀ j, j < n → (V j).m ≤ 1000) ∧ np ≤ 150 ∧ ∀ j, j < np → (V2 j).m ≤ 1000)))
  case first =>
    have K1 : Hid True := Hid.mk trivial
    go_wp2_with (first
      | (go_at_call 10; have K2 := K1.out; refine (HBIG.out _ HB1.out).mono ?_; rintro e w2 ⟨⟨bb, rfl, hbb⟩, hw2⟩; have hw2' := hw2.symm; clear hw2; subst hw2'; have HBB := Hid.mk hbb; clear hbb HBIG K1 K2; cases bb)
      | (go_at_call 10; refine (HBIG2.out _ HB1.out).mono ?_; rintro e w2 ⟨⟨b2, rfl, hbb⟩, hw2⟩; have hw2' := hw2.symm; clear hw2; subst hw2'; have HBB2 := Hid.mk hbb; clear hbb HBIG2)
      | go_in)
    all_goals
      go_meet
      case rel => first
        | exact ⟨true, rfl, Hid.mk ⟨rfl, fun e => by cases e⟩⟩
        | exact ⟨_, rfl, Hid.mk ⟨rfl, fun e => ⟨HBB.out (by first | trivial | rfl), HBB2.out e⟩⟩⟩
  case rest =>
  obtain ⟨bg, rfl, HBG⟩ := hcut
  have ew := HBG.out.1.symm
  subst ew
  have HBG2 := Hid.mk HBG.out.2
  clear HBG HBIG HBIG2
  cases bg with
  | true =>
    go_wp2
    go_ret
    exact ⟨rfl, HB1.out⟩
  | false =>
  have HN2 := Hid.mk (HBG2.out rfl).2
  have HBO := Hid.mk (HBOTH.out _ HB1.out (HBG2.out rfl).1)
  clear HBOTH HBG2
  go_upto_region 8 with (first
    | (go_at_call 11; refine HBO.out.mono ?_; rintro e w3 ⟨g, r, rfl, H3⟩; clear HBO)
    | go_in)
  obtain ⟨⟨v, G, A, h1, h2, h3, h4⟩, h5, h6⟩ := H3.out
  have HN : Hid (G.n ≤ 150) := Hid.mk (by omega)
  have HR := Hid.mk h2
  have HG := Hid.mk h3
  have HCOPY := Hid.mk (tw_copy (h1.rebase h5) h2 h3 (by omega))
  clear h1 h2 h3 h4 h5 h6 H3
  go_upto_region 11 with (first
    | (go_at_call 26; refine HCOPY.out.mono ?_; rintro e w4 ⟨c, rfl, H4⟩; clear HCOPY)
    | go_in)
  obtain ⟨Ac, ht4, hrc⟩ := H4.out
  have HTW4 := Hid.mk ht4
  have HRC := Hid.mk hrc
  clear ht4 hrc H4
  go_wp2
  go_loopw [13] (fun iv wr => ∃ i : Nat, iv = .int .i64 i ∧ Hid (i ≤ np ∧ ∃ Gg Ag, Tw w wr g c r v G Ag Ac ∧ Rel Gg Ag ∧ Gg.Ok ∧ Gg.n ≤ 150 + i)) (fun iv _ => np - (Go.RowKit.intOf iv).toNat)
  case atStart => exact ⟨0, rfl, Hid.mk ⟨Nat.zero_le _, G, A, HTW4.out, HR.out, HG.out, by have := HN.out; omega⟩⟩
  case round =>
    obtain ⟨i, rfl, HI⟩ := hrel
    clear HTW4
    obtain ⟨hin, Gg, Ag, ht, hr, hg, hgn⟩ := HI.out
    have HTW := Hid.mk ht
    have HRG := Hid.mk hr
    have HGG := Hid.mk hg
    have HGN := Hid.mk hgn
    clear ht hr hg hgn HI
    by_cases hlt : (i : Int) < (np : Int)
    · have u1 : IntKind.i64.wrap ((i : Int) + 1) = ((i + 1 : Nat) : Int) := by have := HN2.out.1; rw [IntKind.wrap_i64]; omega
      have HLT : Hid (i < np) := Hid.mk (by omega)
      have i0 : (0 : Int) ≤ (i : Int) := by omega
      obtain ⟨ab, off, rfl, ⟨t0, t1, t2⟩, hla, hwf⟩ := HV.out wr i HTW.out.bel HLT.out
      have HM := Hid.mk (HN2.out.2 i HLT.out)
      have HCEL0 : Hid (∀ W, Below w.heap.size w W → W.cell? ⟨ab, off + i * 3 + 1, none⟩ = some (.int .i64 (V2 i).buf) ∧ W.cell? ⟨ab, off + i * 3 + 2, none⟩ = some (.slice (V2 i).ao (V2 i).m (V2 i).cc)) := Hid.mk (fun W hB => by
        obtain ⟨ab', off', e, ⟨_, t1, t2⟩, _⟩ := HV.out W i hB HLT.out
        cases e
        exact ⟨t1, t2⟩)
      clear HV
      generalize (V2 i).way = wy at *
      generalize (V2 i).buf = bf at *
      generalize (V2 i).ao = ai at *
      generalize (V2 i).m = mi at *
      generalize (V2 i).cc = ci at *
      generalize (V2 i).xs = xi at *
      have e9 : (⟨ab, off, none⟩ : Addr).add (i * 3) = ⟨ab, off + i * 3, none⟩ := by rw [add_at]
      have HADD := Hid.mk (fun W (hB : Below wr.heap.size wr W) => tw_add (HTW.out.grow hB) HRG.out HGG.out (by have := HGN.out; have := HN2.out.1; have := HLT.out; omega) bf hwf ai mi ci xi hla (by have := HM.out; omega))
      have HWRT := Hid.mk (tw_written HTW.out HRG.out HGG.out (by have := HGN.out; have := HN2.out.1; have := HLT.out; omega) bf hwf)
      have HWD : Hid (Below wr.heap.size wr wr.drew) := Hid.mk (drew_below wr)
      have HCEL : Hid (∀ W, Below w.heap.size w W → W.cell? ⟨ab, off + i * 3 + 1, none⟩ = some (.int .i64 bf) ∧ W.cell? ⟨ab, off + i * 3 + 2, none⟩ = some (.slice ai mi ci)) := HCEL0
      clear hla hwf HCEL0
      by_cases hw0 : wy = 0
      · subst hw0
        have hH : (fun W : World => W.cell? ⟨ab, off + i * 3 + 1, none⟩ = some (.int .i64 bf) ∧ W.cell? ⟨ab, off + i * 3 + 2, none⟩ = some (.slice ai mi ci)) wr.drew := ⟨t1, t2⟩
        go_wp2
        refine wp_region_held_drew (S := fun W : World => W.cell? ⟨ab, off + i * 3 + 1, none⟩ = some (.int .i64 bf) ∧ W.cell? ⟨ab, off + i * 3 + 2, none⟩ = some (.slice ai mi ci)) (by kernel_rfl) hH (fun hH => ?_)
        change wpAnyH Try.prog Region.Mode.any _ _ _ 12 _ _ _
        refine takeH 0 52 (ptV g) rfl (by kernel_rfl) (by kernel_rfl) (by kernel_rfl) (by kernel_rfl) (fun _ _ _ h => h) (by kernel_rfl) (fun w hw => by kernel_rfl) hH ?_
        simp only [List.setIfInBounds_toArray, List.set_cons_zero, List.set_cons_succ]
        refine takeH 1 53 (.slice (some ⟨ab, off, none⟩) np cp) rfl (by kernel_rfl) (by kernel_rfl) (by kernel_rfl) (by kernel_rfl) (fun _ _ _ h => h) (by kernel_rfl) (fun w hw => by kernel_rfl) hH ?_
        simp only [List.setIfInBounds_toArray, List.set_cons_zero, List.set_cons_succ]
        refine takeH 2 54 (.int .i64 i) rfl (by kernel_rfl) (by kernel_rfl) (by kernel_rfl) (by kernel_rfl) (fun _ _ _ h => h) (by kernel_rfl) (fun w hw => by kernel_rfl) hH ?_
        simp only [List.setIfInBounds_toArray, List.set_cons_zero, List.set_cons_succ]
        refine takeH 3 55 (.pointer (some ⟨ab, off + i * 3, none⟩)) rfl (by kernel_rfl) (by kernel_rfl) (by kernel_rfl) (by kernel_rfl) (fun _ _ _ h => h) (by kernel_rfl) (fun w hw => by go_simp) hH ?_
        simp only [List.setIfInBounds_toArray, List.set_cons_zero, List.set_cons_succ]
        refine takeH 4 56 (.pointer (some ⟨ab, off + i * 3 + 1, none⟩)) rfl (by kernel_rfl) (by kernel_rfl) (by kernel_rfl) (by kernel_rfl) (fun _ _ _ h => h) (by kernel_rfl) (fun w hw => by go_simp) hH ?_
        simp only [List.setIfInBounds_toArray, List.set_cons_zero, List.set_cons_succ]
        refine takeH 5 57 (.int .i64 bf) rfl (by kernel_rfl) (by kernel_rfl) (by kernel_rfl) (by kernel_rfl) (fun _ _ _ h => h) (by kernel_rfl) (fun w hw => by ((try dsimp only at hw); obtain ⟨hw1, hw2⟩ := hw; go_simp)) hH ?_
        simp only [List.setIfInBounds_toArray, List.set_cons_zero, List.set_cons_succ]
        refine takeH 6 58 (.slice (some ⟨ab, off, none⟩) np cp) rfl (by kernel_rfl) (by kernel_rfl) (by kernel_rfl) (by kernel_rfl) (fun _ _ _ h => h) (by kernel_rfl) (fun w hw => by kernel_rfl) hH ?_
        simp only [List.setIfInBounds_toArray, List.set_cons_zero, List.set_cons_succ]
        refine takeH 7 59 (.int .i64 i) rfl (by kernel_rfl) (by kernel_rfl) (by kernel_rfl) (by kernel_rfl) (fun _ _ _ h => h) (by kernel_rfl) (fun w hw => by kernel_rfl) hH ?_
        simp only [List.setIfInBounds_toArray, List.set_cons_zero, List.set_cons_succ]
        refine takeH 8 60 (.pointer (some ⟨ab, off + i * 3, none⟩)) rfl (by kernel_rfl) (by kernel_rfl) (by kernel_rfl) (by kernel_rfl) (fun _ _ _ h => h) (by kernel_rfl) (fun w hw => by go_simp) hH ?_
        simp only [List.setIfInBounds_toArray, List.set_cons_zero, List.set_cons_succ]
        refine takeH 9 61 (.pointer (some ⟨ab, off + i * 3 + 2, none⟩)) rfl (by kernel_rfl) (by kernel_rfl) (by kernel_rfl) (by kernel_rfl) (fun _ _ _ h => h) (by kernel_rfl) (fun w hw => by go_simp) hH ?_
        simp only [List.setIfInBounds_toArray, List.set_cons_zero, List.set_cons_succ]
        refine takeH 10 62 (.slice ai mi ci) rfl (by kernel_rfl) (by kernel_rfl) (by kernel_rfl) (by kernel_rfl) (fun _ _ _ h => h) (by kernel_rfl) (fun w hw => by ((try dsimp only at hw); obtain ⟨hw1, hw2⟩ := hw; go_simp)) hH ?_
        simp only [List.setIfInBounds_toArray, List.set_cons_zero, List.set_cons_succ]
        refine stepH_call 11 63 rfl (by kernel_rfl) (by kernel_rfl) (by kernel_rfl) 27 #[.tmp 52, .tmp 57, .tmp 62] #[26, 3, 23] (by kernel_rfl) (enters_of Try.func27 (by kernel_rfl) rfl) #[ptV g, .int .i64 bf, .slice ai mi ci] (by kernel_rfl) (HADD.out wr.drew HWD.out) ?_
        rintro e w5 ⟨u, rfl, H5⟩
        have HV5 : Hid (w5.cell? ⟨ab, off + i * 3 + 1, none⟩ = some (.int .i64 bf) ∧ w5.cell? ⟨ab, off + i * 3 + 2, none⟩ = some (.slice ai mi ci)) := Hid.mk (by
          obtain ⟨_, _, h, _⟩ := H5.out
          exact HCEL.out w5 h.bel)
        have hH := HV5.out
        refine ⟨_, rfl, hH, ?_⟩
        simp only [List.setIfInBounds_toArray, List.set_cons_zero, List.set_cons_succ]
        refine wpAnyH_done (by kernel_rfl) ?_ _
        have HNX : Hid (i + 1 ≤ np ∧ ∃ Gg Ag, Tw w w5 g c r v G Ag Ac ∧ Rel Gg Ag ∧ Gg.Ok ∧ Gg.n ≤ 150 + (i + 1)) := Hid.mk (by
          obtain ⟨G2, A2, q1, q2, q3, q4⟩ := H5.out
          exact ⟨HLT.out, G2, A2, q1, q2, q3, by have := HGN.out; omega⟩)
        go_wp2
        go_roundw
        case rel => exact ⟨i + 1, rfl, HNX⟩
        case measure => (have := HLT.out; simp [Go.RowKit.intOf]; omega)
      · have hw1 : (wy == 0) = false := beq_eq_false_iff_ne.2 hw0
        go_wp2_with (first
          | (go_at_call 25; refine HWRT.out.mono ?_; rintro e w5 ⟨u, rfl, H5⟩; clear HWRT)
          | go_in)
        have HNX : Hid (i + 1 ≤ np ∧ ∃ Gg Ag, Tw w w5 g c r v G Ag Ac ∧ Rel Gg Ag ∧ Gg.Ok ∧ Gg.n ≤ 150 + (i + 1)) := Hid.mk (by
          obtain ⟨G2, A2, q1, q2, q3, q4⟩ := H5.out
          exact ⟨HLT.out, G2, A2, q1, q2, q3, by have := HGN.out; omega⟩)
        go_roundw
        case rel => exact ⟨i + 1, rfl, HNX⟩
        case measure => (have := HLT.out; simp [Go.RowKit.intOf]; omega)
    · obtain ⟨L3, hL3⟩ : ∃ L3, L3 = bufP G (undB G) G.n := ⟨_, rfl⟩
      obtain ⟨L4, hL4⟩ : ∃ L4, L4 = bufP G (fun j => mayB G j) G.n := ⟨_, rfl⟩
      obtain ⟨m3, hm3⟩ : ∃ m3, m3 = L3.length := ⟨_, rfl⟩
      obtain ⟨m4, hm4⟩ : ∃ m4, m4 = L4.length := ⟨_, rfl⟩
      obtain ⟨nl, hnl⟩ : ∃ nl, nl = cnt G := ⟨_, rfl⟩
      have HM3 : Hid (m3 ≤ 150 ∧ m4 ≤ 150) := Hid.mk (by
        have := bufP_len G (undB G) G.n
        have := bufP_len G (fun j => mayB G j) G.n
        have := HN.out
        rw [hm3, hm4, hL3, hL4]
        omega)
      have HCL := Hid.mk (tw_cleft HTW.out HRC.out)
      have HRL : Hid (Calls Try.prog 14 #[ptV r] wr fun e w' => e = .returned (.int .i64 (cnt G : Nat)) ∧ w' = wr) := Hid.mk (by
        obtain ⟨Fr, h⟩ := HTW.out.ref
        exact rleft_any h)
      rw [← hnl] at HCL HRL
      have HCB := Hid.mk (gives_row (tw_cbufs HTW.out HRC.out HG.out HN.out))
      have HRB : Hid (∀ W, Below wr.heap.size wr W → Calls Try.prog 21 #[ptV r, .bool false] W fun e W' => ∃ a c, e = .returned (.slice a (bufP G (undB G) G.n).length c) ∧ Hid (LAt W' a (bufP G (undB G) G.n).length (bufP G (undB G) G.n) ∧ Below W.heap.size W W')) := Hid.mk (fun W hB => by
        obtain ⟨Fr, h⟩ := (HTW.out.grow hB).ref
        have := rbufs_any h HG.out (by have := HN.out; omega) false
        rw [show (fun j : Nat => !G.dn j && (mayB G j || !false)) = undB G by funext j; simp [undB]] at this
        exact gives_row this)
      have HCR : Hid (∀ W, Below wr.heap.size wr W → Calls Try.prog 22 #[ptV c] W fun e W' => ∃ a c, e = .returned (.slice a (bufP G (fun j => mayB G j) G.n).length c) ∧ Hid (LAt W' a (bufP G (fun j => mayB G j) G.n).length (bufP G (fun j => mayB G j) G.n) ∧ Below W.heap.size W W')) := Hid.mk (fun W hB => gives_row (tw_cready (HTW.out.grow hB) HRC.out HG.out HN.out))
      have HRR : Hid (∀ W, Below wr.heap.size wr W → Calls Try.prog 21 #[ptV r, .bool true] W fun e W' => ∃ a c, e = .returned (.slice a (bufP G (fun j => mayB G j) G.n).length c) ∧ Hid (LAt W' a (bufP G (fun j => mayB G j) G.n).length (bufP G (fun j => mayB G j) G.n) ∧ Below W.heap.size W W')) := Hid.mk (fun W hB => by
        obtain ⟨Fr, h⟩ := (HTW.out.grow hB).ref
        have := rbufs_any h HG.out (by have := HN.out; omega) true
        rw [show (fun j : Nat => !G.dn j && (mayB G j || !true)) = (fun j : Nat => mayB G j) by funext j; exact may_und] at this
        exact gives_row this)
      rw [← hL3] at HCB HRB
      rw [← hL4] at HCR HRR
      rw [← hm3] at HCB HRB
      rw [← hm4] at HCR HRR
      have HCW : Hid (∀ W, Below wr.heap.size wr W → Calls Try.prog 25 #[ptV c, .int .i64 b] W fun e W' => ∃ u, e = .returned u ∧ Hid (∃ Gc Ac', Tw w W' g c r v G Ag Ac' ∧ RelC Gc Ac' ∧ Gc.Ok ∧ Gc.n ≤ 150)) := Hid.mk (fun W hB => tw_cwritten (HTW.out.grow hB) HRC.out HG.out HN.out b HWB.out)
      have HGL : Hid (∀ W Ac', Tw w W g c r v G Ag Ac' → Calls Try.prog 13 #[ptV g] W fun e W' => e = .returned (.int .i64 (Ag.nl : Nat)) ∧ W' = W) := Hid.mk (fun W Ac' h => tw_left h)
      obtain ⟨gl, hgl⟩ : ∃ gl, gl = Ag.nl := ⟨_, rfl⟩
      rw [← hgl] at HGL
      have HTG : Hid (∀ W, Below wr.heap.size wr W → Tw w W g c r v G Ag Ac) := Hid.mk (fun W hB => HTW.out.grow hB)
      clear hL3 hL4 hm3 hm4 hnl hgl HTW HRG HGG HGN
      go_upto_region 19 with (first
        | (go_at_call 13; refine HCL.out.mono ?_; rintro e w5 ⟨rfl, hw5⟩; have hw5' := hw5.symm; clear hw5; subst hw5'; clear HCL)
        | (go_at_call 14; refine HRL.out.mono ?_; rintro e w5 ⟨rfl, hw5⟩; have hw5' := hw5.symm; clear hw5; subst hw5'; clear HRL)
        | (go_at_call 20; refine HCB.out.mono ?_; rintro e w5 ⟨a5, c5, rfl, H5⟩; have HW5 := Hid.mk H5.out.2; clear HCB)
        | (go_at_call 21; refine (HRB.out _ HW5.out).mono ?_; rintro e w6 ⟨a6, c6, rfl, H6⟩; have HW6 := Hid.mk (HW5.out.trans (H6.out.2.mono HW5.out.size)); clear HRB)
        | (go_at_call 15; refine (same3 H5.out.1 H6.out.1 H6.out.2 (Below.refl _ _) HM3.out.1).mono ?_; rintro e w7 ⟨rfl, hb7⟩; have HW7 := Hid.mk (HW6.out.trans (hb7.mono HW6.out.size)); clear hb7 H5 H6 HW5 HW6)
        | (go_at_call 22; refine (HCR.out _ HW7.out).mono ?_; rintro e w8 ⟨a8, c8, rfl, H8⟩; have HW8 := Hid.mk (HW7.out.trans (H8.out.2.mono HW7.out.size)); clear HCR)
        | (go_at_call 21; refine (HRR.out _ HW8.out).mono ?_; rintro e w9 ⟨a9, c9, rfl, H9⟩; have HW9 := Hid.mk (HW8.out.trans (H9.out.2.mono HW8.out.size)); clear HRR)
        | (go_at_call 15; refine (same3 H8.out.1 H9.out.1 H9.out.2 (Below.refl _ _) HM3.out.2).mono ?_; rintro e wa ⟨rfl, hba⟩; have HWA := Hid.mk (HW9.out.trans (hba.mono HW9.out.size)); clear hba H8 H9 HW8 HW9 HW7)
        | go_in)
      go_upto_region 22 with (first
        | (go_at_call 13; refine (HGL.out wa Ac (HTG.out wa HWA.out)).mono ?_; rintro e w5 ⟨rfl, hw5⟩; have hw5' := hw5.symm; clear hw5; subst hw5')
        | (go_at_call 25; refine (HCW.out wa HWA.out).mono ?_; rintro e wb ⟨u, rfl, HB⟩; obtain ⟨Gc, Ac2, k1, k2, k3, k4⟩ := HB.out; have HK1 := Hid.mk k1; have HCA := Hid.mk (tw_cadd k1 k2 k3 k4 b HWB.out); clear k1 k2 k3 k4 HB HCW)
        | (go_at_call 27; refine HCA.out.mono ?_; rintro e wc ⟨u2, rfl, HC⟩; obtain ⟨Ac3, k5⟩ := HC.out; have HK5 := Hid.mk k5; clear k5 HC HCA)
        | go_in)
      go_wp2_with (first
        | (go_at_call 13; refine (HGL.out _ _ HK5.out).mono ?_; rintro e w5 ⟨rfl, hw5⟩; have hw5' := hw5.symm; clear hw5; subst hw5')
        | go_in)
      go_ret
      exact ⟨rfl, HK5.out.bel⟩
end Go.Proofs.Ythmbhcmicebcpaa
