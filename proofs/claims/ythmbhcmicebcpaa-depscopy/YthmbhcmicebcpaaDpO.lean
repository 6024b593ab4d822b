/-
  A graph made since w, told by what it holds alone.
-/
import Derived.Test.YthmbhcmicebcpaaDpReady
namespace Go.Proofs.Ythmbhcmicebcpaa
open Go Go.Proofs Go.RowKit Go.Shelf
/-- A graph that was made since w; the blocks of X lie beside it. -/
def DpO (X : Nat → Prop) (w W : World) (g : Nat) (A : Ga) : Prop := ∃ D, GrAt (fun k => w.heap.size ≤ k ∧ ¬ X k) W g D ∧ D.abs = A ∧ Below w.heap.size w W ∧ ∀ k, X k → w.heap.size ≤ k ∧ k < W.heap.size
/-- All is well, with room. -/
structure Ga.Fit (A : Ga) : Prop where
  ok : A.Ok
  mm : A.ml = A.mb
  nl : A.nl < 1000000
  nb : A.nb < 1000000
  ad : A.added < 900000
  ab : ∀ y c, A.ch y = some c → c.ab.length ≤ 900000
section
variable {X X' : Nat → Prop} {w W W' : World} {g : Nat} {A : Ga}
theorem DpO.side {S : Nat → Prop} (h : DpO X w W g A) (hO : Only S W W') (hS : ∀ k, S k → X k) (hX : ∀ k, X' k → k < W'.heap.size ∧ (X k ∨ W.heap.size ≤ k)) : DpO X' w W' g A := by
  obtain ⟨D, h1, h2, h3, h4⟩ := h
  have hs := hO.size
  have hb := h3.size
  refine ⟨D, ((h1.only hO (fun k hk _ hs => hk.2 (hS k hs))).tight).mono (fun k _ hk => ?_), h2, h3.trans (hO.below h3.size (fun k hk => (h4 k (hS k hk)).1)), fun k hk => ?_⟩
  · have hF := h1.inF hk
    have hlt : k < W.heap.size := by obtain ⟨n, hn⟩ := hk; exact h1.lt hn
    refine ⟨hF.1, fun hx => ?_⟩
    rcases (hX k hx).2 with h' | h'
    · exact hF.2 h'
    · omega
  · obtain ⟨a, b⟩ := hX k hk
    rcases b with b | b
    · exact ⟨(h4 k b).1, a⟩
    · exact ⟨by omega, a⟩
theorem DpO.bel (h : DpO X w W g A) : Below w.heap.size w W := by obtain ⟨_, _, _, h, _⟩ := h; exact h
theorem DpO.grow (h : DpO X w W g A) (hB : Below W.heap.size W W') : DpO X w W' g A := h.side (Only.of_new (fun _ => False) hB) (fun _ h => h.elim) (fun k hk => by
  obtain ⟨_, _, _, _, h4⟩ := h
  exact ⟨Nat.lt_of_lt_of_le (h4 k hk).2 hB.size, .inl hk⟩)
theorem DpO.next' {D : Gd} {B : Ga} (h1 : GrAt (Grown (fun k => w.heap.size ≤ k ∧ ¬ X k) W) W' g D) (ha : D.abs = B) (h : DpO X w W g A) (hO : Only (fun k => w.heap.size ≤ k ∧ ¬ X k) W W') : DpO X w W' g B ∧ ∀ k, X k → W'.heap[k]? = W.heap[k]? := by
  obtain ⟨_, _, _, h3, h4⟩ := h
  have hs := hO.size
  have hb := h3.size
  refine ⟨⟨D, h1.mono (fun k _ hk => ?_), ha, h3.trans (hO.below h3.size (fun k hk => hk.1)), fun k hk => ⟨(h4 k hk).1, by have := (h4 k hk).2; omega⟩⟩, fun k hk => hO.block k (h4 k hk).2 (fun h' => h'.2 hk)⟩
  rcases hk with hk | hk
  · exact hk
  · exact ⟨by omega, fun hx => by have := (h4 k hx).2; omega⟩
theorem o_new (hB : Below w.heap.size w W) : Calls Try.prog 28 #[] W fun e W' => e = .returned (ptV W.heap.size) ∧ DpO (fun _ => False) w W' W.heap.size newD.abs := by
  have hs := hB.size
  refine (new_any W).mono ?_
  rintro e W' ⟨rfl, hg, hB'⟩
  exact ⟨rfl, newD, hg.mono (fun k _ hk => by subst hk; exact ⟨hs, fun h => h⟩), rfl, hB.trans (hB'.mono hs), fun k hk => hk.elim⟩
theorem o_add (h : DpO X w W g A) (hf : A.Fit) (buf : Int) (hwb : (Lit.int .i64 buf).wf = true) (ao : Option Addr) (m cc : Nat) (xs : List Int) (hx : LAt W ao m xs) (hm : m < 1000000) (hro : ∀ a, ao = some a → 0 < m → X a.block) (hany : xs.any (noneB A.added) = false) :
    Calls Try.prog 27 #[ptV g, .int .i64 buf, .slice ao m cc] W fun e W' => e = .returned (.tuple #[.int .i64 (A.added : Nat), .int .i64 0]) ∧ DpO X w W' g (A.add buf xs) ∧ ∀ k, X k → W'.heap[k]? = W.heap[k]? := by
  have h0 := h
  obtain ⟨D, h1, rfl, h3, h4⟩ := h
  refine (add_yes h1 hf.ok hf.mm buf hwb ao m cc xs hx hm (fun a e h0 => ⟨(h4 _ (hro a e h0)).2, fun h' => h'.2 (hro a e h0)⟩) hany hf.ab hf.nl hf.nb hf.ad).mono ?_
  rintro e W' ⟨rfl, D', hg, ha, hO⟩
  exact ⟨rfl, DpO.next' hg ha h0 hO⟩
theorem o_blocked (h : DpO X w W g A) (hf : A.Ok) {b : Int} (hw : (Lit.int .i64 b).wf = true) :
    Calls Try.prog 18 #[ptV g, .int .i64 b] W fun e W' => ∃ v, e = .returned v ∧ W'.ownsRow W.heap.size 3 1 v (((A.bf b).map (·.bl)).getD []).length (Iy (((A.bf b).map (·.bl)).getD [])) ∧ Below W.heap.size W W' := by
  obtain ⟨D, h1, rfl, h3, h4⟩ := h
  have := blocked_any h1 hw (fun x hx => by
    have := rise_len (h1.cont (.bl b) x hx).1.1 (hf.nxs b x.dat (by show (D.bf b).map _ = _; rw [hx]; rfl)).2
    have := hf.big
    omega)
  have e : ((D.abs.bf b).map (·.bl)).getD [] = ((D.bf b).map (·.bl)).getD [] := by
    show (((D.bf b).map Bx.dat).map (·.bl)).getD [] = _
    cases D.bf b <;> rfl
  rw [e]
  exact this
theorem o_next (h : DpO X w W g A) (hf : A.Ok) {b : Int} (hw : (Lit.int .i64 b).wf = true) :
    Calls Try.prog 16 #[ptV g, .int .i64 b] W fun e W' => ∃ v, e = .returned v ∧ W'.ownsRow W.heap.size 3 1 v (((A.bf b).map (·.nx)).getD []).length (Iy (((A.bf b).map (·.nx)).getD [])) ∧ Below W.heap.size W W' := by
  obtain ⟨D, h1, rfl, h3, h4⟩ := h
  have := next_any h1 hw (fun x hx => by
    have := rise_len (h1.cont (.nx b) x hx).1.1 (hf.nxs b x.dat (by show (D.bf b).map _ = _; rw [hx]; rfl)).1
    have := hf.big
    omega)
  have e : ((D.abs.bf b).map (·.nx)).getD [] = ((D.bf b).map (·.nx)).getD [] := by
    show (((D.bf b).map Bx.dat).map (·.nx)).getD [] = _
    cases D.bf b <;> rfl
  rw [e]
  exact this
theorem o_left (h : DpO X w W g A) : Calls Try.prog 13 #[ptV g] W fun e W' => e = .returned (.int .i64 (A.nl : Nat)) ∧ W' = W := by
  obtain ⟨D, h1, rfl, h3, h4⟩ := h
  exact left_any h1
theorem o_ready (h : DpO X w W g A) (hf : A.Fit) (hmb : A.mb = true) (R : List Int) (hR : Rise R) (hmem : ∀ x, x ∈ R ↔ ∃ bx, A.bf x = some bx ∧ bx.nx ≠ []) :
    Calls Try.prog 22 #[ptV g] W fun e W' => ∃ v, e = .returned v ∧ W'.ownsRow W.heap.size 3 1 v R.length (Iy R) ∧ Below W.heap.size W W' := by
  obtain ⟨D, h1, rfl, h3, h4⟩ := h
  obtain ⟨b, hb⟩ : ∃ b, D.bm = some b := by
    have h9 : D.bm.isSome = true := hmb
    cases hb : D.bm with
    | none => rw [hb] at h9; cases h9
    | some b => exact ⟨b, rfl⟩
  refine ready_any h1 hb R hR (fun x => ?_) (by have : D.nb < 1000000 := hf.nb; omega)
  rw [hmem x]
  constructor
  · rintro ⟨bx, hbx, hn⟩
    have h9 : (D.bf x).map Bx.dat = some bx := hbx
    cases hb : D.bf x with
    | none => rw [hb] at h9; cases h9
    | some z =>
      rw [hb] at h9
      refine ⟨z, rfl, ?_⟩
      have : z.dat = bx := Option.some.inj h9
      rw [← this] at hn
      exact hn
  · rintro ⟨z, hz, hn⟩
    exact ⟨z.dat, by show (D.bf x).map _ = _; rw [hz]; rfl, hn⟩
theorem o_written (h : DpO X w W g A) {buf : Int} (hwb : (Lit.int .i64 buf).wf = true) {S : List Int} (hS : ((A.bf buf).map (·.nx)).getD [] = S) (hr : S.Pairwise (· < ·)) (hSl : S.length ≤ 1000000)
    (hst : ∀ k, k < S.length → (A.fins (S.take k)).Ok ∧ ∃ c, (A.fins (S.take k)).ch (S.getD k 0) = some c ∧ (∀ y ∈ c.ab, y ≠ S.getD k 0 ∧ ((A.fins (S.take k)).ch y).isSome = true) ∧ c.ab.length ≤ 1000000000) (hdom : ∀ j, j < S.length → (A.ch (S.getD j 0)).isSome = true) :
    Calls Try.prog 25 #[ptV g, .int .i64 buf] W fun e W' => ∃ v, e = .returned v ∧ W'.ownsRow W.heap.size 3 1 v S.length (Iy S) ∧ DpO X w W' g (A.fins S) ∧ ∀ k, X k → W'.heap[k]? = W.heap[k]? := by
  have h0 := h
  obtain ⟨D, h1, rfl, h3, h4⟩ := h
  refine (written_any h1 hwb ?_ hr hSl (fun j hj => ?_) hst).mono ?_
  · rw [← hS]
    show _ = (((D.bf buf).map Bx.dat).map (·.nx)).getD []
    cases D.bf buf <;> rfl
  · have h9 : ((D.ch (S.getD j 0)).map Cx.dat).isSome = true := hdom j hj
    cases hc : D.ch (S.getD j 0) with
    | none => rw [hc] at h9; cases h9
    | some _ => rfl
  · rintro e W' ⟨v, rfl, hrow, D', hg, ha, _, hO⟩
    exact ⟨v, rfl, hrow, DpO.next' hg ha h0 hO⟩
end
theorem num_any (W : World) (x : Int) : Calls Try.prog 29 #[.int .i64 x] W fun e W' => e = .returned (.int .i64 x) ∧ W' = W := by
  go_enter Try.func29, Try.ntmps29
  go_wp2
  go_ret
  exact ⟨rfl, rfl⟩
end Go.Proofs.Ythmbhcmicebcpaa
