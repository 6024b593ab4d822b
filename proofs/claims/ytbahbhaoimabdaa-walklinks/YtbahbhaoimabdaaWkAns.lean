/-
  Renumber's answers, of walk and of the reference, as rows of nodes of one's own.
-/
import Derived.Test.YtbahbhaoimabdaaWkSim
import Derived.Test.YtbahbhaoimabdaaLayRn
import Derived.Test.YtbahbhaoimabdaaWkFindsW
namespace Go.Proofs.Ytbahbhaoimabdaa
open Go Go.Proofs Go.RowKit Go.Shelf

/-- Nodes that are not too many. -/
structure Sml (m : Nat) (N : Nat → NoV) : Prop where
  le : m ≤ 500
  sn : ∀ i, i < m → (N i).sn ≤ 500
  bn : ∀ i, i < m → (N i).bn ≤ 500
  dat : ∀ i, i < m → ∀ k, k < (N i).bn → ((N i).P k).m ≤ 2000
theorem Sml.hs {m : Nat} {N : Nat → NoV} (h : Sml m N) : ∀ i, i < m → (N i).sn ≤ 16777216 ∧ (N i).bn ≤ 16777216 ∧ ∀ k, k < (N i).bn → ((N i).P k).m ≤ 16777216 := fun i hi => ⟨by have := h.sn i hi; omega, by have := h.bn i hi; omega, fun k hk => by have := h.dat i hi k hk; omega⟩
theorem big_small2 {N : Nat → NoV} (f : Nat) : ∀ (k : Nat) (s : Int), 0 ≤ s → (∀ i, k ≤ i → i < k + f → (N i).sn ≤ 8796093022208 ∧ (N i).bn ≤ 8796093022208) → bigGo N f k s = false → s ≤ 500 ∧ ∀ i, k ≤ i → i < k + f → (N i).sn ≤ 500 ∧ (N i).bn ≤ 500 ∧ bigIn (N i) = false := by
  induction f with
  | zero =>
    intro k s hs _ h
    rw [bigGo] at h
    exact ⟨by have := of_decide_eq_false h; omega, fun i h1 h2 => by omega⟩
  | succ f ih =>
    intro k s hs hb h
    rw [bigGo] at h
    split at h
    · split at h
      · cases h
      · rename_i h1 h2
        have h3 := hb k (Nat.le_refl _) (by omega)
        have e1 : wrap64 (s + ((N k).sn : Int)) = s + ((N k).sn : Int) := wrap64_id (by omega) (by omega)
        rw [e1] at h
        have e2 : wrap64 (s + ((N k).sn : Int) + ((N k).bn : Int)) = s + ((N k).sn : Int) + ((N k).bn : Int) := wrap64_id (by omega) (by omega)
        rw [e2] at h
        obtain ⟨g1, g2⟩ := ih (k + 1) _ (by omega) (fun i hi1 hi2 => hb i (by omega) (by omega)) h
        refine ⟨h1, fun i hi1 hi2 => ?_⟩
        by_cases e : i = k
        · subst e
          exact ⟨by omega, by omega, by simpa using h2⟩
        · exact g2 i (by omega) (by omega)
    · cases h
theorem bigIn_bytes {x : NoV} (h : bigIn x = false) (hs : x.bn ≤ 500) : ∀ j, j < x.bn → (x.P j).m ≤ 2000 := fun j hj => by
  rcases Nat.lt_or_ge 2000 (x.P j).m with h1 | h1
  · rw [bigIn_part hj (by omega) h1] at h; cases h
  · exact h1
theorem Sml.of_big {m : Nat} {N : Nat → NoV} (hb : ∀ i, i < m → (N i).sn ≤ 8796093022208 ∧ (N i).bn ≤ 8796093022208) (h : bigB m N = false) : Sml m N := by
  unfold bigB at h
  obtain ⟨g1, g2⟩ := big_small2 m 0 m (by omega) (fun i _ hi => hb i (by omega)) h
  refine ⟨by omega, fun i hi => (g2 i (Nat.zero_le _) (by omega)).1, fun i hi => (g2 i (Nat.zero_le _) (by omega)).2.1, fun i hi k hk => ?_⟩
  obtain ⟨-, h1, h2⟩ := g2 i (Nat.zero_le _) (by omega)
  exact bigIn_bytes h2 h1 k hk
/-- An answer: a row of nodes of one's own. -/
structure AnsAt (B k : Nat) (v : Value) (N : Nat → NoV) (W : World) : Prop where
  row : W.ownsRow B 39 6 v k (Ny ((List.range k).map N))
  own : ∀ i, i < k → OwN W B (N i).bn (N i)
  fine : ∀ i, i < k → (N i).wf ∧ ∀ j, j < (N i).bn → ∀ x ∈ ((N i).P j).xs, 0 ≤ x ∧ x ≤ 255
theorem AnsAt.blw {B k : Nat} {v : Value} {N : Nat → NoV} {W W' : World} (h : AnsAt B k v N W) (hB : Below W.heap.size W W') : AnsAt B k v N W' := ⟨owns_at h.row (fun g e => hB.block g (owns_kind h.row g e).2.1), fun i hi => (h.own i hi).blw hB, h.fine⟩
theorem map_getD {k j : Nat} (hj : j < k) (N : Nat → NoV) : ((List.range k).map N).getD j noZ = N j := by
  rw [List.getD, List.getElem?_map, List.getElem?_range hj]
  rfl
theorem AnsAt.NoAt {B k : Nat} {ao : Option Addr} {c : Nat} {N : Nat → NoV} {W : World} (h : AnsAt B k (.slice ao k c) N W) : NoAt W ao k N := by
  have h1 := ownsN_NoAt h.row (fun j hj => by
    rw [map_getD hj]
    exact ⟨PaAt_of (h.own j hj) (h.fine j hj).2, EnAt_of (h.own j hj).slots, (h.fine j hj).1⟩)
  intro hk
  obtain ⟨b, o, e, hl, hc⟩ := h1 hk
  refine ⟨b, o, e, hl, fun j hj => ?_⟩
  have h2 := hc j hj
  dsimp only at h2
  rw [map_getD hj] at h2
  exact h2
theorem wf_small {x : Int} (h0 : 0 ≤ x) (h1 : x ≤ 100000) : (Lit.int .i64 x).wf = true := by
  have e1 : IntKind.i64.min = -9223372036854775808 := by decide
  have e2 : IntKind.i64.max = 9223372036854775807 := by decide
  simp [Lit.wf, e1, e2]
  omega
theorem numE_ino {m : Nat} {Nd : Nat → NoV} {E : Nat → EnV} {R : List Nat} (hR : RowOk m R) (k : Nat) : 0 ≤ (numE m Nd E R k).ino ∧ (numE m Nd E R k).ino ≤ (m : Int) := by
  have h1 := (rowS_ok (Nd := Nd) (E := E) hR (k + 1)).1
  obtain ⟨h2, h3⟩ := numE_lead (m := m) (Nd := Nd) (E := E) (R := R) (k := k) (List.prefix_refl _)
  cases hl : leadS m Nd (E k) with
  | none => rw [h2 hl]; exact ⟨Int.le_refl _, by show (0 : Int) ≤ m; omega⟩
  | some t =>
    obtain ⟨h4, h5⟩ := h3 t hl
    rw [h5]
    have h6 := List.idxOf_lt_length_of_mem h4
    have h7 := h1.length
    dsimp only
    omega
theorem fine_of {w0 : World} {ao : Option Addr} {m : Nat} {Nd : Nat → NoV} (hN : NoAt w0 ao m Nd) (hs : Sml m Nd) {r i : Nat} (hr : r < m) (hi : i < (rowN m Nd r i).length) {x : NoV} (hV : SameV x (outN m Nd r i)) : x.wf ∧ ∀ j, j < x.bn → ∀ u ∈ (x.P j).xs, 0 ≤ u ∧ u ≤ 255 := by
  have hR := rowN_ok (Nd := Nd) hr i
  have hp : pN m Nd r i < m := hR.lt _ (by
    have h1 : (rowN m Nd r i).getD i 0 = (rowN m Nd r i)[i] := (List.getElem_eq_getD 0).symm
    unfold pN
    rw [h1]
    exact List.getElem_mem _)
  obtain ⟨-, -, -, -, -, hpa, -, -⟩ := no_at hN hp
  have h1 := hs.sn _ hp
  have h2 := hs.bn _ hp
  have h3 := hs.le
  have h4 := hR.length
  have es : x.sn = (Nd (pN m Nd r i)).sn := hV.sn
  have eb : x.bn = (Nd (pN m Nd r i)).bn := hV.bn
  refine ⟨⟨by omega, by omega, ?_, fun j hj => ?_⟩, fun j hj u hu => ?_⟩
  · rw [show x.ino = (i : Int) + 1 from hV.ino]
    exact wf_small (by omega) (by omega)
  · rw [hV.E j hj]
    obtain ⟨q1, q2⟩ := numE_ino (Nd := Nd) (E := (Nd (pN m Nd r i)).E) hR j
    exact wf_small q1 (by show (numE m Nd (Nd (pN m Nd r i)).E (rowN m Nd r i) j).ino ≤ 100000; omega)
  · obtain ⟨b, o, -, -, hc⟩ := hpa (by omega)
    rw [(hV.P j hj).2.2] at hu
    exact (hc j (by omega)).2.2.2.2.2 u hu
theorem IsRen.sml {m k : Nat} {Nd K : Nat → NoV} (h : IsRen m Nd k K) (hs : Sml m Nd) : Sml k K := by
  rcases h with ⟨-, rfl⟩ | ⟨r, e, hk, hv⟩
  · exact ⟨Nat.zero_le _, fun i hi => absurd hi (Nat.not_lt_zero i), fun i hi => absurd hi (Nat.not_lt_zero i), fun i hi => absurd hi (Nat.not_lt_zero i)⟩
  · have hr := (firstN_some e).1
    have hp : ∀ i, i < k → pN m Nd r i < m := fun i hi => (rowN_ok (Nd := Nd) hr i).lt _ (by
      have h2 := rowN_below hk hi
      have h1 : (rowN m Nd r i).getD i 0 = (rowN m Nd r i)[i] := (List.getElem_eq_getD 0).symm
      unfold pN
      rw [h1]
      exact List.getElem_mem _)
    refine ⟨by have := (rowN_ok (Nd := Nd) hr k).length; have := hs.le; omega, fun i hi => ?_, fun i hi => ?_, fun i hi j hj => ?_⟩
    · rw [(hv i hi).sn]; exact hs.sn _ (hp i hi)
    · rw [(hv i hi).bn]; exact hs.bn _ (hp i hi)
    · rw [((hv i hi).P j hj).2.1]
      exact hs.dat _ (hp i hi) j (by rw [(hv i hi).bn] at hj; exact hj)
theorem AnsAt.nil (B : Nat) (N : Nat → NoV) (W : World) : AnsAt B 0 (.slice none 0 0) N W := ⟨World.ownsRow_nil _ _ _ _, fun i hi => absurd hi (Nat.not_lt_zero i), fun i hi => absurd hi (Nat.not_lt_zero i)⟩
theorem renumber_ans (w0 : World) (ao : Option Addr) (m cc : Nat) (Nd : Nat → NoV) (hN : NoAt w0 ao m Nd) (hs : Sml m Nd) :
    Calls Try.prog 16 #[.slice ao m cc] w0 fun e w' => ∃ na k nc K, e = .returned (.slice na k nc) ∧ Below w0.heap.size w0 w' ∧ AnsAt w0.heap.size k (.slice na k nc) K w' ∧ IsRen m Nd k K := by
  refine (renumber_any w0 ao m cc Nd hN (by have := hs.le; omega) hs.hs).mono ?_
  rintro e w' ⟨v, rfl, hB, h0, h1⟩
  cases hq : firstN m Nd 1 with
  | none =>
    rw [h0 hq]
    exact ⟨none, 0, 0, fun _ => noZ, rfl, hB, AnsAt.nil _ _ _, .inl ⟨hq, rfl⟩⟩
  | some r =>
    obtain ⟨L, W1, v1, k, X, pb, nb, rv, hV, hS, hk, hO⟩ := h1 r hq
    have hr := (firstN_some hq).1
    have hsim := Sim.same (N := Nd) (M := atN L) hr hV
    have hk' : k = (rowN m Nd r k).length := by rw [(hsim.rowN k).1, List.length_map] at hk; exact hk
    have hp : ∀ i, i < k → pN m (atN L) r i < m := fun i hi => (rowN_ok (Nd := atN L) hr i).lt _ (by
      have h2 := rowN_below hk hi
      have h1 : (rowN m (atN L) r i).getD i 0 = (rowN m (atN L) r i)[i] := (List.getElem_eq_getD 0).symm
      unfold pN
      rw [h1]
      exact List.getElem_mem _)
    have hv : ∀ i, i < k → SameV (outN m (atN L) r i) (outN m Nd r i) := fun i hi => hsim.outN (rowN_below hk' hi)
    have ho := hO.j.out
    rw [List.length_map, List.length_range] at ho
    obtain ⟨na, nc, rfl, -, -⟩ := owns_val ho
    refine ⟨na, k, nc, outN m (atN L) r, rfl, hB, ⟨ho, fun i hi => ?_, fun i hi => fine_of hN hs hr (rowN_below hk' hi) (hv i hi)⟩, .inr ⟨r, hq, hk', hv⟩⟩
    have h2 := hO.j.mem.own _ (hp i hi)
    have h3 := hO.done i hi
    rw [h3] at h2
    exact ⟨h2.slots, h2.parts, h2.data⟩
theorem rrenumber_ans (w0 : World) (ao : Option Addr) (m cc : Nat) (Nd : Nat → NoV) (hN : NoAt w0 ao m Nd) (hs : Sml m Nd) :
    Calls Try.prog 17 #[.slice ao m cc] w0 fun e w' => ∃ na k nc K, e = .returned (.slice na k nc) ∧ Below w0.heap.size w0 w' ∧ AnsAt w0.heap.size k (.slice na k nc) K w' ∧ IsRen m Nd k K := by
  have hm : m ≤ 16777216 := by have := hs.le; omega
  cases hq : firstN m Nd 1 with
  | none =>
    refine (rrenumber_none w0 ao m cc Nd hN hm hq).mono ?_
    rintro e w' ⟨rfl, hB⟩
    exact ⟨none, 0, 0, fun _ => noZ, rfl, hB, AnsAt.nil _ _ _, .inl ⟨hq, rfl⟩⟩
  | some r =>
    refine (rrenumber_some w0 ao m cc Nd hN hm hs.hs r hq).mono ?_
    rintro e w' ⟨v, k, O, nv, rv, rfl, hk, hO⟩
    have hr := (firstN_some hq).1
    have ho := hO.j.out
    have hl := hO.len
    rw [hl] at ho
    obtain ⟨na, nc, rfl, -, -⟩ := owns_val ho
    have eO : (List.range k).map (fun i => O.getD i noZ) = O := by
      refine List.ext_getElem (by simp [hl]) (fun i h1 h2 => ?_)
      rw [List.getElem_map, List.getElem_range]
      exact (List.getElem_eq_getD noZ).symm
    refine ⟨na, k, nc, fun i => O.getD i noZ, rfl, hO.j.below, ⟨by rw [eO]; exact ho, fun i hi => hO.j.own i (by omega), fun i hi => fine_of hN hs hr (rowN_below hk hi) (hO.val i hi)⟩, .inr ⟨r, hq, hk, hO.val⟩⟩
end Go.Proofs.Ytbahbhaoimabdaa
