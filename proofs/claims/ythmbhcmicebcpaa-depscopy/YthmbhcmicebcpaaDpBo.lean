/-
  Both graphs side by side.
-/
import Derived.Test.YthmbhcmicebcpaaLayRa
import Derived.Test.YthmbhcmicebcpaaDpAlive
namespace Go.Proofs.Ythmbhcmicebcpaa
open Go Go.Proofs Go.RowKit Go.Shelf
theorem map_len {W : World} {m : Option Nat} {n : Nat} {f : Lit → Option Value} {L : List Int} (h : MapAt W m n f) (hL : KeyL f L) : L.length = n := by
  cases m with
  | none =>
    have hf := h.2
    cases L with
    | nil => exact h.1.symm
    | cons x r => have := hL.2 x; rw [hf] at this; simp at this
  | some b =>
    obtain ⟨D, hown, hs, hD⟩ := h
    have hp := (keys_perm2 hown hD hL).length_eq
    rw [hp]
    obtain ⟨es, rfl, h1, h2⟩ := hown.entries keyed3
    simpa [intKeys, Maps.size] using hs
/-- The buffers of those below k that p takes. -/
def bufP (G : Gp) (p : Nat → Bool) : Nat → List Int
  | 0 => []
  | k + 1 => if p k then insS (G.buf k) (bufP G p k) else bufP G p k
theorem bufP_pw (G : Gp) (p : Nat → Bool) (k : Nat) : (bufP G p k).Pairwise (· < ·) := by
  induction k with
  | zero => exact List.Pairwise.nil
  | succ k ih => unfold bufP; split; exact ins_pw ih; exact ih
theorem bufP_mem {G : Gp} {p : Nat → Bool} {k : Nat} {x : Int} : x ∈ bufP G p k ↔ ∃ j : Nat, j < k ∧ p j = true ∧ G.buf j = x := by
  induction k with
  | zero => simp [bufP]
  | succ k ih =>
    unfold bufP
    split
    · rename_i hp
      rw [mem_ins, ih]
      constructor
      · rintro (rfl | ⟨j, h1, h2, h3⟩)
        · exact ⟨k, by omega, hp, rfl⟩
        · exact ⟨j, by omega, h2, h3⟩
      · rintro ⟨j, h1, h2, h3⟩
        by_cases e : j = k
        · subst e; exact .inl h3.symm
        · exact .inr ⟨j, by omega, h2, h3⟩
    · rename_i hp
      rw [ih]
      constructor
      · rintro ⟨j, h1, h2, h3⟩; exact ⟨j, by omega, h2, h3⟩
      · rintro ⟨j, h1, h2, h3⟩
        by_cases e : j = k
        · subst e; exact absurd h2 hp
        · exact ⟨j, by omega, h2, h3⟩
theorem bufP_len (G : Gp) (p : Nat → Bool) (k : Nat) : (bufP G p k).length ≤ k := by
  induction k with
  | zero => simp [bufP]
  | succ k ih =>
    unfold bufP
    split
    · have := ins_len_le (G.buf k) (bufP G p k); omega
    · omega
theorem bufP_rise {G : Gp} (hG : G.Ok) (p : Nat → Bool) : Rise (bufP G p G.n) := ⟨bufP_pw _ _ _, fun x hx => by
  obtain ⟨j, h1, _, rfl⟩ := bufP_mem.1 hx
  exact hG.wf j ⟨by omega, by omega⟩⟩
def undB (G : Gp) (j : Nat) : Bool := !G.dn j
section
variable {X X' : Nat → Prop} {w W W' : World} {g : Nat} {A : Ga} {G : Gp}
theorem o_add2 (h : DpO X w W g A) (hf : A.Fit) (buf : Int) (hwb : (Lit.int .i64 buf).wf = true) (ao : Option Addr) (m cc : Nat) (xs : List Int) (hx : LAt W ao m xs) (hm : m < 1000000) (hro : ∀ a, ao = some a → 0 < m → X a.block) (hany : xs.any (noneB A.added) = false) :
    Calls Try.prog 27 #[ptV g, .int .i64 buf, .slice ao m cc] W fun e W' => e = .returned (.tuple #[.int .i64 (A.added : Nat), .int .i64 0]) ∧ DpO X w W' g (A.add buf xs) ∧ W.heap.size ≤ W'.heap.size ∧ ∀ k, X k → W'.heap[k]? = W.heap[k]? := by
  have h0 := h
  obtain ⟨D, h1, rfl, h3, h4⟩ := h
  refine (add_yes h1 hf.ok hf.mm buf hwb ao m cc xs hx hm (fun a e h0 => ⟨(h4 _ (hro a e h0)).2, fun h' => h'.2 (hro a e h0)⟩) hany hf.ab hf.nl hf.nb hf.ad).mono ?_
  rintro e W' ⟨rfl, D', hg, ha, hO⟩
  obtain ⟨q1, q2⟩ := DpO.next' hg ha h0 hO
  exact ⟨rfl, q1, hO.size, q2⟩
theorem o_written2 (h : DpO X w W g A) {buf : Int} (hwb : (Lit.int .i64 buf).wf = true) {S : List Int} (hS : ((A.bf buf).map (·.nx)).getD [] = S) (hr : S.Pairwise (· < ·)) (hSl : S.length ≤ 1000000)
    (hst : ∀ k, k < S.length → (A.fins (S.take k)).Ok ∧ ∃ c, (A.fins (S.take k)).ch (S.getD k 0) = some c ∧ (∀ y ∈ c.ab, y ≠ S.getD k 0 ∧ ((A.fins (S.take k)).ch y).isSome = true) ∧ c.ab.length ≤ 1000000000) (hdom : ∀ j, j < S.length → (A.ch (S.getD j 0)).isSome = true) :
    Calls Try.prog 25 #[ptV g, .int .i64 buf] W fun e W' => ∃ v, e = .returned v ∧ W'.ownsRow W.heap.size 3 1 v S.length (Iy S) ∧ DpO X w W' g (A.fins S) ∧ W.heap.size ≤ W'.heap.size ∧ ∀ k, X k → W'.heap[k]? = W.heap[k]? := by
  have h0 := h
  obtain ⟨D, h1, rfl, h3, h4⟩ := h
  refine (written_any h1 hwb ?_ hr hSl (fun j hj => ?_) hst).mono ?_
  · rw [← hS]
    show _ = (((D.bf buf).map Bx.dat).map (·.nx)).getD []
    cases D.bf buf <;> rfl
  · have h9 : ((D.ch (S.getD j 0)).map Cx.dat).isSome = true := hdom j hj
    cases hc : D.ch (S.getD j 0) with
    | none => rw [hc] at h9; cases h9
    | some _ => rfl
  · rintro e W' ⟨v, rfl, hrow, D', hg, ha, _, hO⟩
    obtain ⟨q1, q2⟩ := DpO.next' hg ha h0 hO
    exact ⟨v, rfl, hrow, q1, hO.size, q2⟩
/-- Written, whatever the graph. -/
theorem r_written2 (hO : DpO X w W g A) (h : Rel G A) (hG : G.Ok) (hn : G.n < 900000) {b : Int} (hwb : (Lit.int .i64 b).wf = true) : Calls Try.prog 25 #[ptV g, .int .i64 b] W fun e W' => ∃ v, e = .returned v ∧ W'.ownsRow W.heap.size 3 1 v (nxL A b).length (Iy (nxL A b)) ∧ DpO X w W' g (A.fins (nxL A b)) ∧ W.heap.size ≤ W'.heap.size ∧ ∀ k, X k → W'.heap[k]? = W.heap[k]? := by
  obtain ⟨p1, p2⟩ := nx_pw h b
  have hlen : (nxL A b).length ≤ G.n := rise_len p1 (fun y hy => ((p2 y).1 hy).1.1.1)
  have hget : ∀ k, k < (nxL A b).length → (nxL A b).getD k 0 ∈ nxL A b := fun k hk => by rw [List.getD, List.getElem?_eq_getElem hk]; exact List.getElem_mem _
  refine o_written2 hO hwb rfl p1 (by omega) (fun k hk => ?_) (fun j hj => (h.h.ch _).2 ((p2 _).1 (hget j hj)).1.1)
  have hsub : ((nxL A b).take k).Sublist (nxL A b) := List.take_sublist _ _
  have hr := rel_fins ((nxL A b).take k) h ((pw_nodup p1).sublist hsub) (fun i hi => ((p2 i).1 (hsub.subset hi)).1)
  obtain ⟨e1, e2, e3⟩ := fins_same ((nxL A b).take k) (G := G)
  refine ⟨rel_ok hr (ok_fins hG _) (by rw [e1]; omega), ?_⟩
  have hm : mayP G ((nxL A b).getD k 0) := ((p2 _).1 (hget k hk)).1
  have hu : und (G.fins ((nxL A b).take k)) ((nxL A b).getD k 0) := by
    rw [und_fins]
    refine ⟨hm.1, fun q => ?_⟩
    obtain ⟨j, hj, e⟩ := List.getElem_of_mem q
    rw [List.length_take] at hj
    rw [List.getElem_take] at e
    have hjk : j < k := by omega
    have := List.pairwise_iff_getElem.1 p1 j k (by omega) hk hjk
    rw [e, List.getD, List.getElem?_eq_getElem hk] at this
    simp at this
  obtain ⟨c, hc⟩ := hr.h.some hu
  refine ⟨c, hc, fun y hy => ?_, ?_⟩
  · have q := ((hr.h.ab _ c hc).2 y).1 hy
    refine ⟨fun e => ?_, (hr.h.ch y).2 q.1⟩
    have q2 := q.2.1
    rw [e3, e] at q2
    exact hm.2 _ ⟨q2, hm.1⟩
  · have := rise_len (hr.h.ab _ c hc).1 (fun z hz => (((hr.h.ab _ c hc).2 z).1 hz).1.1)
    rw [e1] at this
    omega
theorem r_ready (hO : DpO X w W g A) (h : Rel G A) (hG : G.Ok) (hn : G.n < 900000) (h0 : 0 < G.n) : Calls Try.prog 22 #[ptV g] W fun e W' => ∃ v, e = .returned v ∧ Hid (W'.ownsRow W.heap.size 3 1 v (bufP G (fun j => mayB G j) G.n).length (Iy (bufP G (fun j => mayB G j) G.n)) ∧ Below W.heap.size W W') := by
  refine (o_ready hO (rel_fit h hG hn) (by rw [h.mb]; exact decide_eq_true h0) (bufP G (fun j => mayB G j) G.n) (bufP_rise hG _) (fun x => ?_)).mono ?_
  · rw [bufP_mem]
    constructor
    · rintro ⟨j, h1, h2, rfl⟩
      have hm := (may_iff hG ⟨by omega, by omega⟩).1 h2
      obtain ⟨bx, hb⟩ := h.h.some_bf hm.1
      refine ⟨bx, hb, fun e => ?_⟩
      have := ((h.h.nx _ bx hb).2 (j : Int)).2 ⟨hm.1, rfl, hm.2⟩
      rw [e] at this
      cases this
    · rintro ⟨bx, hb, hne⟩
      cases hx : bx.nx with
      | nil => exact absurd hx hne
      | cons i r =>
        obtain ⟨q1, q2, q3⟩ := ((h.h.nx _ bx hb).2 i).1 (by rw [hx]; simp)
        have hi := q1.1
        refine ⟨i.toNat, by omega, ?_, ?_⟩
        · show mayB G ((i.toNat : Nat) : Int) = true
          rw [show ((i.toNat : Nat) : Int) = i by omega]
          exact (may_iff hG hi).2 ⟨q1, q3⟩
        · rw [show ((i.toNat : Nat) : Int) = i by omega]; exact q2
  · rintro e W' ⟨v, rfl, q⟩
    exact ⟨v, rfl, Hid.mk q⟩
theorem r_bufs (hO : DpO X w W g A) (h : Rel G A) (hG : G.Ok) (hn : G.n < 900000) : Calls Try.prog 20 #[ptV g] W fun e W' => ∃ v, e = .returned v ∧ Hid (W'.ownsRow W.heap.size 3 1 v (bufP G (undB G) G.n).length (Iy (bufP G (undB G) G.n)) ∧ Below W.heap.size W W') := by
  obtain ⟨D, h1, rfl, h3, h4⟩ := hO
  have hK : KeyL (bufF D.bf) (bufP G (undB G) G.n) := ⟨bufP_rise hG _, fun x => by
    show ((D.bf x).map _).isSome = _
    rw [Option.isSome_map]
    have e : (D.bf x).isSome = (D.abs.bf x).isSome := by show _ = ((D.bf x).map Bx.dat).isSome; rw [Option.isSome_map]
    rw [e]
    cases hb : D.abs.bf x with
    | none =>
      symm
      rw [Option.isSome_none, decide_eq_false_iff_not, bufP_mem]
      rintro ⟨j, q1, q2, rfl⟩
      have := h.h.bf (j : Int) ⟨⟨by omega, by omega⟩, by simpa [undB] using q2⟩
      rw [hb] at this
      cases this
    | some bx =>
      symm
      rw [Option.isSome_some, decide_eq_true_eq, bufP_mem]
      have hne := h.h.ne x bx hb (fun f => f)
      have : ∃ i, und G i ∧ G.buf i = x := by
        cases hx : bx.nx with
        | cons i r => obtain ⟨q1, q2, _⟩ := ((h.h.nx _ bx hb).2 i).1 (by rw [hx]; simp); exact ⟨i, q1, q2⟩
        | nil =>
          cases hy : bx.bl with
          | cons i r => obtain ⟨q1, q2, _⟩ := ((h.h.bl _ bx hb).2 i).1 (by rw [hy]; simp); exact ⟨i, q1, q2⟩
          | nil => rw [hx, hy] at hne; exact absurd rfl hne
      obtain ⟨i, q1, q2⟩ := this
      have hi := q1.1
      refine ⟨i.toNat, by omega, ?_, ?_⟩
      · unfold undB
        rw [show ((i.toNat : Nat) : Int) = i by omega, q1.2]
        rfl
      · rw [show ((i.toNat : Nat) : Int) = i by omega]; exact q2⟩
  have hm : MapAt W D.bm D.nb (bufF D.bf) := h1.cont .bufs
  have hl := map_len hm hK
  rw [← hl] at hm
  refine (bufs_map W g D.bm _ _ h1.cellsG.2.2.1 hm hK (by have := bufP_len G (undB G) G.n; omega)).mono ?_
  rintro e W' ⟨v, rfl, q1, _, q2⟩
  exact ⟨v, rfl, Hid.mk ⟨q1, q2⟩⟩
end
/-- The program's graph and the reference's, each with its own blocks; the blocks of Y lie beside them. -/
def Bo (Y : Nat → Prop) (w W : World) (g r : Nat) (v : Value) (G : Gp) (A : Ga) : Prop := ∃ Fr, DpO (fun k => Fr k ∨ Y k) w W g A ∧ RgAt Fr W r v G ∧ ∀ k, Fr k → ¬ Y k
def Ky (Y : Nat → Prop) (W W' : World) : Prop := ∀ k, Y k → W'.heap[k]? = W.heap[k]?
section
variable {Y Y' : Nat → Prop} {w W W' : World} {g r : Nat} {v : Value} {A : Ga} {G : Gp}
theorem DpO.bx {X : Nat → Prop} (h : DpO X w W g A) : ∀ k, X k → w.heap.size ≤ k ∧ k < W.heap.size := by obtain ⟨_, _, _, _, h⟩ := h; exact h
theorem Bo.bel (h : Bo Y w W g r v G A) : Below w.heap.size w W := by obtain ⟨_, h, _⟩ := h; exact h.bel
theorem Bo.by' (h : Bo Y w W g r v G A) : ∀ k, Y k → w.heap.size ≤ k ∧ k < W.heap.size := by obtain ⟨_, h, _⟩ := h; exact fun k q => h.bx k (.inr q)
theorem Bo.side {S : Nat → Prop} (h : Bo Y w W g r v G A) (hO : Only S W W') (hS : ∀ k, S k → Y k) (hY : ∀ k, Y' k → k < W'.heap.size ∧ (Y k ∨ W.heap.size ≤ k)) : Bo Y' w W' g r v G A := by
  obtain ⟨Fr, h1, h2, h3⟩ := h
  refine ⟨Fr, h1.side hO (fun k q => .inr (hS k q)) (fun k q => ?_), h2.keep hO.size (fun k q hl => hO.block k hl (fun s => h3 k q (hS k s))), fun k q s => ?_⟩
  · rcases q with q | q
    · exact ⟨Nat.lt_of_lt_of_le (h1.bx k (.inl q)).2 hO.size, .inl (.inl q)⟩
    · exact ⟨(hY k q).1, (hY k q).2.elim (fun e => .inl (.inr e)) .inr⟩
  · rcases (hY k s).2 with e | e
    · exact h3 k q e
    · have := (h1.bx k (.inl q)).2; omega
theorem Bo.grow (h : Bo Y w W g r v G A) (hB : Below W.heap.size W W') : Bo Y w W' g r v G A := h.side (Only.of_new (fun _ => False) hB) (fun _ q => q.elim) (fun k q => ⟨Nat.lt_of_lt_of_le (h.by' k q).2 hB.size, .inl q⟩)
theorem Bo.ky (h : Bo Y w W g r v G A) (hB : Below W.heap.size W W') : Ky Y W W' := fun k q => hB.block k (h.by' k q).2
/-- The program's graph turns. -/
theorem Bo.onG {A' : Ga} {Fr : Nat → Prop} (h2 : RgAt Fr W r v G) (h3 : ∀ k, Fr k → ¬ Y k) (h1 : DpO (fun k => Fr k ∨ Y k) w W' g A') (hs : W.heap.size ≤ W'.heap.size) (hk : ∀ k, Fr k ∨ Y k → W'.heap[k]? = W.heap[k]?) : Bo Y w W' g r v G A' ∧ Ky Y W W' :=
  ⟨⟨Fr, h1, h2.keep hs (fun k q _ => hk k (.inl q)), h3⟩, fun k q => hk k (.inr q)⟩
/-- The reference's graph turns. -/
theorem Bo.onR {v' : Value} {G' : Gp} {Fr : Nat → Prop} (h1 : DpO (fun k => Fr k ∨ Y k) w W g A) (h3 : ∀ k, Fr k → ¬ Y k) (hO : Only Fr W W') (h2 : RgAt (Grown Fr W) W' r v' G') : Bo Y w W' g r v' G' A ∧ Ky Y W W' := by
  have hs := hO.size
  refine ⟨⟨fun k => (Fr k ∨ W.heap.size ≤ k) ∧ k < W'.heap.size, h1.side hO (fun k q => .inl q) (fun k q => ?_), h2.mono (fun k hl q => ⟨q, hl⟩), fun k q s => ?_⟩, fun k q => hO.block k (h1.bx k (.inr q)).2 (fun s => h3 k s q)⟩
  · rcases q with q | q
    · exact ⟨q.2, q.1.elim (fun e => .inl (.inl e)) .inr⟩
    · exact ⟨by have := (h1.bx k (.inr q)).2; omega, .inl (.inr q)⟩
  · rcases q.1 with e | e
    · exact h3 k e s
    · have := (h1.bx k (.inr s)).2; omega
theorem b_add (h : Bo Y w W g r v G A) (hR : Rel G A) (hG : G.Ok) (hn : G.n < 800000) (b : Int) (hwb : (Lit.int .i64 b).wf = true) (ao : Option Addr) (m cc : Nat) (xs : List Int) (hx : LAt W ao m xs) (hm : m < 1000000) (hro : ∀ a, ao = some a → 0 < m → Y a.block) :
    Calls Try.prog 27 #[ptV g, .int .i64 b, .slice ao m cc] W fun e W' => ∃ p q : Int, e = .returned (.tuple #[.int .i64 p, .int .i64 q]) ∧ Hid (((xs.any (noneB G.n) = true ∧ p = 0 ∧ q = 1 ∧ Bo Y w W' g r v G A) ∨ (xs.any (noneB G.n) = false ∧ p = G.n ∧ q = 0 ∧ Bo Y w W' g r v G (A.add b xs))) ∧ Ky Y W W') := by
  obtain ⟨Fr, h1, h2, h3⟩ := h
  cases hany : xs.any (noneB G.n) with
  | true =>
    obtain ⟨D, d1, d2, d3, d4⟩ := h1
    have had : D.added = G.n := by rw [← hR.ad, ← d2]; rfl
    refine (add_no d1 b ao m cc xs hx (by omega) (by rw [had]; exact hany)).mono ?_
    rintro e W' ⟨rfl, rfl⟩
    exact ⟨0, 1, rfl, Hid.mk ⟨.inl ⟨rfl, rfl, rfl, Fr, ⟨D, d1, d2, d3, d4⟩, h2, h3⟩, fun _ _ => rfl⟩⟩
  | false =>
    refine (o_add2 h1 (rel_fit hR hG (by omega)) b hwb ao m cc xs hx hm (fun a e q => .inr (hro a e q)) (by rw [hR.ad]; exact hany)).mono ?_
    rintro e W' ⟨rfl, q1, hs, q2⟩
    obtain ⟨a1, a2⟩ := Bo.onG h2 h3 q1 hs q2
    exact ⟨(A.added : Nat), 0, rfl, Hid.mk ⟨.inr ⟨rfl, by rw [hR.ad], rfl, a1⟩, a2⟩⟩
theorem b_radd (h : Bo Y w W g r v G A) (hn : G.n ≤ 1000000) (b : Int) (ao : Option Addr) (m cc : Nat) (xs : List Int) (hx : LAt W ao m xs) (h0 : ao = none → m = 0 ∧ cc = 0) (hm : m ≤ 1000000) :
    Calls Try.prog 30 #[ptV r, .int .i64 b, .slice ao m cc] W fun e W' => ∃ p q : Int, e = .returned (.tuple #[.int .i64 p, .int .i64 q]) ∧ Hid (((xs.any (noneB G.n) = true ∧ p = 0 ∧ q = 1 ∧ Bo Y w W' g r v G A) ∨ (xs.any (noneB G.n) = false ∧ p = G.n ∧ q = 0 ∧ ∃ v', Bo Y w W' g r v' (G.add b xs) A)) ∧ Ky Y W W') := by
  obtain ⟨Fr, h1, h2, h3⟩ := h
  refine (radd_any h2 (fun k q => (h1.bx k (.inl q)).2) hn b ao m cc xs hx h0 hm).mono ?_
  rintro e W' ⟨e1, e2⟩
  cases hany : xs.any (noneB G.n) with
  | true =>
    obtain ⟨rfl, hB⟩ := e1 hany
    have hb : Bo Y w W g r v G A := ⟨Fr, h1, h2, h3⟩
    exact ⟨0, 1, rfl, Hid.mk ⟨.inl ⟨rfl, rfl, rfl, hb.grow hB⟩, hb.ky hB⟩⟩
  | false =>
    obtain ⟨rfl, v', HQ⟩ := e2 hany
    obtain ⟨a1, a2⟩ := Bo.onR h1 h3 HQ.out.2 HQ.out.1
    exact ⟨(G.n : Nat), 0, rfl, Hid.mk ⟨.inr ⟨rfl, rfl, rfl, v', a1⟩, a2⟩⟩
theorem b_written (h : Bo Y w W g r v G A) (hR : Rel G A) (hG : G.Ok) (hn : G.n < 800000) (b : Int) (hwb : (Lit.int .i64 b).wf = true) : Calls Try.prog 25 #[ptV g, .int .i64 b] W fun e W' => ∃ u, e = .returned u ∧ Hid (W'.ownsRow W.heap.size 3 1 u (nxL A b).length (Iy (nxL A b)) ∧ Bo Y w W' g r v G (A.fins (nxL A b)) ∧ Ky Y W W' ∧ W.heap.size ≤ W'.heap.size) := by
  obtain ⟨Fr, h1, h2, h3⟩ := h
  refine (r_written2 h1 hR hG (by omega) hwb).mono ?_
  rintro e W' ⟨u, rfl, q1, q2, q3, q4⟩
  obtain ⟨a1, a2⟩ := Bo.onG h2 h3 q2 q3 q4
  exact ⟨u, rfl, Hid.mk ⟨q1, a1, a2, q3⟩⟩
theorem b_rwritten (h : Bo Y w W g r v G A) (hG : G.Ok) (hn : G.n ≤ 1000000) (b : Int) : Calls Try.prog 31 #[ptV r, .int .i64 b] W fun e W' => ∃ u, e = .returned u ∧ Hid (W'.ownsRow W.heap.size 3 1 u (pick (nxB G b) G.n).length (Iy (pick (nxB G b) G.n)) ∧ Bo Y w W' g r v (G.fins (pick (nxB G b) G.n)) A ∧ Ky Y W W') := by
  obtain ⟨Fr, h1, h2, h3⟩ := h
  refine (rwritten_any h2 hG hn (fun k q => (h1.bx k (.inl q)).2) b).mono ?_
  rintro e W' ⟨u, rfl, HQ⟩
  obtain ⟨q1, q2, q3⟩ := HQ.out
  obtain ⟨a1, a2⟩ := Bo.onR h1 h3 q3 (q2.mono (fun k _ q => .inl q))
  exact ⟨u, rfl, Hid.mk ⟨q1, a1, a2⟩⟩
end
end Go.Proofs.Ythmbhcmicebcpaa
