/-
  What image writes stood there: numbers, and a copy that changes nothing.
-/
import Derived.Test.YtejnmpnioeamhaaGreatWhFix
namespace Go.Proofs.YtejnmpnioeamhaaGreat
open Go Go.Proofs Go.RowKit Go.Shelf
namespace Mk
open Sup (superL headL maskL nI nD bD)
open Din (inoL fineL inoV NAt)
open Ent (blockL okB EAt Ey entV noS noE)
/-- copy(b[o:], c), b a row of one's own with room behind its end. -/
theorem copy_own (W : World) (B g n cap o m c : Nat) (xs ys : List Int) (ao : Option Addr) (hown : W.ownsRow B 5 1 (.slice (some ⟨g, 0, none⟩) n cap) n (By xs)) (hb : BAt W ao m ys) (hm : 0 < m) (ho : o + m ≤ n) :
    ∃ W', (Builtin.copy_ #[26, 26] 3 #[.slice (some ⟨g, o, none⟩) (n - o) (cap - o), .slice ao m c]).run Tryz.prog W = .ok (.int .i64 m) W' ∧ W'.ownsRow B 5 1 (.slice (some ⟨g, 0, none⟩) n cap) n (By (splice xs o ys)) ∧ Only (fun k => k = g) W W' := by
  obtain ⟨i0, hi, hz0, hz1, hz2⟩ := info5p
  obtain ⟨a, rfl, -, hcell⟩ := hb.2 hm
  obtain ⟨h1, h2⟩ := hown
  rcases h2 with h2 | ⟨g', cap', cur, hv, hg, hh, hnc, hmx, hsz, ht⟩
  · simp at h2
  · simp only [Value.slice.injEq, Option.some.injEq, Addr.mk.injEq] at hv
    obtain ⟨⟨rfl, -, -⟩, -, rfl⟩ := hv
    have hyl := hb.1
    have hxl : xs.length = n := by rw [By_length] at h1; omega
    have hmin : Nat.min m (n - o) = m := Nat.min_eq_left (by omega)
    have hcl0 : (By ys).length = m := by rw [By_length, hyl]
    have hcl : (By ys).length = Nat.min m (n - o) := by rw [hmin, hcl0]
    have hr := run_copy_row (P := Tryz.prog) W 26 26 3 5 g o (n - o) (cap - o) a m c cur 5 (By ys) Tryz.underlying26 (by rw [hi]; simp [hz1]) hh hcl (fun j u hj => by
      have hjl := (List.getElem?_eq_some_iff.1 hj).1
      rw [By_length] at hjl
      rw [By_get _ j hjl] at hj
      rw [hcell j (by omega)]
      exact hj) (by rw [hcl0]; omega) (By_one _)
    rw [hcl0] at hr
    refine ⟨W.setRow g (cur.toList.take o ++ By ys ++ cur.toList.drop (o + m)).toArray, hr, ⟨?_, .inr ⟨g, cap, _, rfl, hg, setRow_heap W g _ _ 5 _ hh, hnc, hmx, ?_, ?_⟩⟩, (Only.refl (fun k => k = g) W).setRow (.inl rfl) _⟩
    · rw [By_length, splice_length _ _ _ (by omega), hxl, Nat.mul_one]
    · simp [hcl0]
      omega
    · rw [Nat.mul_one] at ht ⊢
      have e1 : cur.toList.take o = (By xs).take o := by rw [← ht, List.take_take, Nat.min_eq_left (by omega)]
      have e2 : (cur.toList.drop (o + m)).take (n - (o + m)) = (By xs).drop (o + m) := by rw [← ht, List.drop_take]
      have e3 : ((By xs).take o).length = o := by rw [List.length_take, h1]; omega
      have e4 : n - o - m = n - (o + m) := by omega
      rw [e1, List.append_assoc, List.take_append, e3, List.take_of_length_le (by rw [e3]; omega), List.take_append, hcl0, List.take_of_length_le (l := By ys) (by rw [hcl0]; omega), e4, e2]
      unfold splice
      simp [By, hyl]
/-- copy(b[o:], c) of what stands there. -/
theorem copy_same (W : World) (B g n cap o m c : Nat) (xs ys : List Int) (ao : Option Addr) (hown : W.ownsRow B 5 1 (.slice (some ⟨g, 0, none⟩) n cap) n (By xs)) (hb : BAt W ao m ys) (hm : 0 < m) (ho : o + m ≤ n) (hp : piece xs o m = ys) :
    ∃ W', (Builtin.copy_ #[26, 26] 3 #[.slice (some ⟨g, o, none⟩) (n - o) (cap - o), .slice ao m c]).run Tryz.prog W = .ok (.int .i64 m) W' ∧ W'.ownsRow B 5 1 (.slice (some ⟨g, 0, none⟩) n cap) n (By xs) ∧ Only (fun k => k = g) W W' := by
  obtain ⟨W', h1, h2, h3⟩ := copy_own W B g n cap o m c xs ys ao hown hb hm ho
  rw [splice_same xs ys o (by rw [hb.1]; exact hp)] at h2
  exact ⟨W', h1, h2, h3⟩
theorem mask_ext (xs ys : List Int) (N s : Nat) (h : ∀ i, xs.getD i 0 = ys.getD i 0) : maskL xs N s = maskL ys N s := by
  unfold maskL
  apply List.map_congr_left
  intro i _
  rw [h i]
theorem getD_zeros (m i : Nat) : (zeros m).getD i 0 = 0 := by
  simp only [List.getD, zeros, List.getElem?_replicate]
  split <;> rfl
/-- The rows of a group that has nothing. -/
theorem head_none (k I D : Int) (a b : Nat) : headL k I D (zeros a) (zeros b) = headL k I D [] [] := by
  unfold headL
  rw [mask_ext (zeros a) [] _ _ (fun i => by rw [getD_zeros]; rfl), mask_ext (zeros b) [] _ _ (fun i => by rw [getD_zeros]; rfl)]
theorem with_first (m : Nat) (hm : 0 < m) : withI (zeros m) 0 true = 1 :: zeros (m - 1) := by
  obtain ⟨k, rfl⟩ : ∃ k, m = k + 1 := ⟨m - 1, by omega⟩
  have h1 : hasI (zeros (k + 1)).length 0 = true := by
    rw [zeros_length]
    unfold hasI
    simp
  unfold withI
  rw [if_pos h1, show (0 : Int).toNat = 0 from rfl, getD_zeros, show setB 0 0 true = 1 by decide]
  simp [zeros, List.replicate_succ]
/-- Those of the first group. -/
theorem head_first (I D : Int) (a b : Nat) (ha : 0 < a) (hb : 0 < b) : headL 0 I D (withI (zeros a) 0 true) (withI (zeros b) 0 true) = headL 0 I D [1] [1] := by
  have e : ∀ (m i : Nat), (1 :: zeros m).getD i 0 = ([1] : List Int).getD i 0 := fun m i => by
    cases i with
    | zero => rfl
    | succ i => rw [List.getD_cons_succ, getD_zeros]; rfl
  unfold headL
  rw [with_first a ha, with_first b hb, mask_ext (1 :: zeros (a - 1)) [1] _ _ (e _), mask_ext (1 :: zeros (b - 1)) [1] _ _ (e _)]
theorem free_bytes : fineL (zeros 13) = true ∧ inoL (zeros 13) = zeros 64 := ⟨by decide, by decide⟩
theorem free_ok : okB freeL = true := by decide +kernel
theorem free_block : blockL freeL = blockL dotsL := by decide +kernel
theorem free_short : ∀ e ∈ freeL, e.2.size ≤ 1000 := by decide +kernel
/-- Where an inode lies, and what lies there. -/
theorem ino_place {G I D : Int} (hg : good G I D = true) {xs : List Int} (hx : ImgIs G I D xs) (ino : Nat) (h1 : 1 ≤ ino) (h2 : ino ≤ inoN G I) :
    ∃ a o : Nat, iaI G I D ino = a ∧ iaO G I D ino = o ∧ grB G I D ino = true ∧ a * 1024 + o + 64 ≤ totN G I D * 1024 ∧ a ≤ 8050 ∧ o ≤ 960 ∧ piece xs (a * 1024 + o) 64 = (if ino = 1 then inoL (rootL I) else zeros 64) ∧ (ino = 1 → grI G I D ino = 0 ∧ grN G I D ino = 0) := by
  have hb := good_iff.1 hg
  obtain ⟨N, rfl⟩ : ∃ N : Nat, G = (N : Int) := ⟨G.toNat, by omega⟩
  obtain ⟨i, rfl⟩ : ∃ i : Nat, I = (i : Int) := ⟨I.toNat, by omega⟩
  obtain ⟨d, rfl⟩ : ∃ d : Nat, D = (d : Int) := ⟨D.toNat, by omega⟩
  have hper : perN (i : Int) (d : Int) = 1 + i + d := by unfold perN; omega
  have hin : inoN (N : Int) (i : Int) = N * (i * 16) := by
    unfold inoN
    have e : (N : Int) * ((i : Int) * 16) = ((N * (i * 16) : Nat) : Int) := by simp
    rw [e, Int.toNat_natCast]
  rw [hin] at h2
  obtain ⟨m, rfl⟩ : ∃ m, ino = m + 1 := ⟨ino - 1, by omega⟩
  have hgr : grB (N : Int) i d ((m + 1 : Nat) : Int) = true := gr_iff.2 ⟨hg, by omega, by
    have : ((m + 1 : Nat) : Int) ≤ ((N * (i * 16) : Nat) : Int) := by omega
    simpa using this⟩
  obtain ⟨g1, g2, g3, g4⟩ := gr_yes hgr
  have hpos : 0 < i * 16 := by omega
  obtain ⟨q, hq⟩ : ∃ q, q = m / (i * 16) := ⟨_, rfl⟩
  obtain ⟨j, hj⟩ : ∃ j, j = m % (i * 16) := ⟨_, rfl⟩
  have hmq : q * (i * 16) + j = m := by rw [hq, hj, Nat.mul_comm]; exact Nat.div_add_mod m (i * 16)
  have hjl : j < i * 16 := by rw [hj]; exact Nat.mod_lt _ hpos
  have hqN : q < N := by
    rw [hq]
    exact Nat.div_lt_of_lt_mul (by rw [Nat.mul_comm]; omega)
  have e1 : (((m + 1 : Nat) : Int) - 1) / ((i : Int) * 16) = (q : Int) := by
    rw [hq, show (((m + 1 : Nat) : Int) - 1) = (m : Int) by omega, show ((i : Int) * 16) = ((i * 16 : Nat) : Int) by simp, ← Int.natCast_ediv]
  have e2 : (((m + 1 : Nat) : Int) - 1) % ((i : Int) * 16) = (j : Int) := by
    rw [hj, show (((m + 1 : Nat) : Int) - 1) = (m : Int) by omega, show ((i : Int) * 16) = ((i * 16 : Nat) : Int) by simp, ← Int.natCast_emod]
  rw [e1, e2] at g3
  rw [e2] at g4
  rw [e1] at g1
  rw [e2] at g2
  refine ⟨1 + q * (1 + i + d) + 1 + j / 16, j % 16 * 64, ?_, ?_, hgr, ?_, ?_, ?_, ?_, ?_⟩
  · rw [g3]
    simp
  · rw [g4]
    simp
  · have h3 : (q + 1) * (1 + i + d) ≤ N * (1 + i + d) := Nat.mul_le_mul_right _ hqN
    rw [Nat.succ_mul] at h3
    have h4 : totN (N : Int) i d = 1 + N * (1 + i + d) := by unfold totN; rw [hper]; simp
    rw [h4]
    omega
  · have h3 : q * (1 + i + d) ≤ 7 * 1005 := Nat.mul_le_mul (by omega) (by omega)
    omega
  · omega
  · have hpl : (1 + q * (1 + i + d) + 1 + j / 16) * 1024 + j % 16 * 64 = (1 + q * perN i d + 1) * 1024 + j * 64 := by
      rw [hper]
      omega
    rw [hpl]
    by_cases h0 : m = 0
    · subst h0
      have hq0 : q = 0 := by rw [hq]; simp
      have hj0 : j = 0 := by rw [hj]; simp
      rw [hq0, hj0, if_pos rfl]
      have := hx.root
      simpa using this
    · rw [if_neg (by omega)]
      refine hx.free q j (by omega) (by omega) ?_
      rcases Nat.eq_zero_or_pos q with h | h
      · subst h
        omega
      · omega
  · intro h
    obtain rfl : m = 0 := by omega
    rw [g1, g2, hq, hj]
    simp
end Mk
end Go.Proofs.YtejnmpnioeamhaaGreat
