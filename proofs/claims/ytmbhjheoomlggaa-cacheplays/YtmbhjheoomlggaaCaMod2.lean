/-
  The model's rows, put together anew.
-/
import Derived.Test.YtmbhjheoomlggaaCaMod
namespace Go.Proofs.Ytmbhjheoomlggaa
open Go Go.Proofs Go.RowKit Go.Shelf
theorem kapp_nil (W : World) (g o m c : Nat) (xs : List Md) (hm : xs.length = m) (hbig : m ≤ 1000000) (hsrc : ∀ j u, (mdCs xs)[j]? = some u → W.cell? ((⟨g, o, none⟩ : Addr).add j) = some u) :
    ∃ v' W', (Builtin.append_ #[29, 29] 29 #[.slice none 0 0, .slice (some ⟨g, o, none⟩) m c]).run Try.prog W = .ok v' W' ∧ W'.ownsRow W.heap.size 39 4 v' m (mdCs xs) ∧ W.grownBy W' none := by
  obtain ⟨i0, hi, hz0, hz1, hz2⟩ := info39p
  obtain ⟨v', W', hr, h2, h3, _⟩ := run_append_own (P := Try.prog) W W.heap.size 29 29 39 i0 _ 4 48 Try.underlying29 hi hz0 hz1 hz2 rfl (by decide) (.slice none 0 0) 0 [] (World.ownsRow_nil W _ 39 4) ⟨g, o, none⟩ m c (mdCs xs) (by rw [mdCs_length, hm]) hsrc (mdCs_one xs) (by unfold maxLen; omega) (by omega) (Nat.le_refl _)
  exact ⟨v', W', hr, by simpa using h2, h3⟩
theorem kapp_two (W : World) (B : Nat) (v1 v2 : Value) (xs ys : List Md) (h1 : W.ownsRow B 39 4 v1 xs.length (mdCs xs)) (h2 : W.ownsRow 0 39 4 v2 ys.length (mdCs ys)) (hB : B ≤ W.heap.size) (hbig : xs.length + ys.length ≤ 1000000) :
    ∃ v' W', (Builtin.append_ #[29, 29] 29 #[v1, v2]).run Try.prog W = .ok v' W' ∧ W'.ownsRow B 39 4 v' (xs ++ ys).length (mdCs (xs ++ ys)) ∧ W.grownBy W' v1.ownBlock := by
  obtain ⟨i0, hi, hz0, hz1, hz2⟩ := info39p
  rcases Nat.eq_zero_or_pos ys.length with h0 | h0
  · obtain rfl : ys = [] := List.eq_nil_of_length_eq_zero h0
    rw [List.append_nil]
    rcases h2.2 with ⟨rfl, _⟩ | ⟨g, cap, cur, rfl, hg, hh, hr⟩
    · exact ⟨v1, W, run_append_owned_none (P := Try.prog) W B 29 29 39 i0 4 Try.underlying29 hi v1 _ _ h1, h1, World.grownBy.refl _ _⟩
    · obtain ⟨v', W', hr, h2', h3, _⟩ := run_append_own (P := Try.prog) W B 29 29 39 i0 _ 4 48 Try.underlying29 hi hz0 hz1 hz2 rfl (by decide) v1 _ _ h1 ⟨g, 0, none⟩ 0 cap [] rfl (fun j u hj => by simp at hj) (fun u hu => by cases hu) (by unfold maxLen; omega) (by omega) hB
      exact ⟨v', W', hr, by simpa using h2', h3⟩
  · obtain ⟨g, c, cur, rfl, hnc, hm, hg, hh, hsz, _⟩ := owns_kept h2 h0
    obtain ⟨v', W', hr, h2', h3, _⟩ := run_append_own (P := Try.prog) W B 29 29 39 i0 _ 4 48 Try.underlying29 hi hz0 hz1 hz2 rfl (by decide) v1 _ _ h1 ⟨g, 0, none⟩ ys.length c (mdCs ys) (mdCs_length ys) (fun j u hj => h2.cells rfl j u hj) (mdCs_one ys) (by unfold maxLen; omega) (by omega) hB
    exact ⟨v', W', hr, by rw [List.length_append, mdCs_append]; exact h2', h3⟩
/-- The length of the model's row, for a loop's measure. -/
def lenM (mm : Nat) (W : World) : Nat := match W.cell? ⟨mm, 0, none⟩ with
  | some (.slice _ n _) => n
  | _ => 0
theorem shk_drop {size : Nat} {ks : List Kb} {k : Nat} (hk : k < ks.length) (hl : size < ks.length) (h1 : ∀ j, j < k → (ks.getD j ⟨0, 0, false, []⟩).idle = false) (h2 : (ks.getD k ⟨0, 0, false, []⟩).idle = true) : shk size ks = shk size (ks.take k ++ ks.drop (k + 1)) := by
  have key : ∀ (ks : List Kb) (k n : Nat), k < ks.length → (∀ j, j < k → (ks.getD j ⟨0, 0, false, []⟩).idle = false) → (ks.getD k ⟨0, 0, false, []⟩).idle = true → shkN (n + 1) ks = shkN n (ks.take k ++ ks.drop (k + 1)) := by
    intro ks
    induction ks with
    | nil => intro k n hk; simp at hk
    | cons x ks ih =>
      intro k n hk h1 h2
      cases k with
      | zero =>
        have : x.idle = true := h2
        rw [shkN, if_pos this]
        rfl
      | succ k =>
        have hx : x.idle = false := h1 0 (by omega)
        rw [shkN, if_neg (by rw [hx]; simp)]
        have := ih k n (by simpa using hk) (fun j hj => h1 (j + 1) (by omega)) h2
        rw [this]
        simp only [List.take_succ_cons, List.drop_succ_cons, List.cons_append]
        cases n with
        | zero => rw [shkN_zero, shkN_zero]
        | succ n => rw [shkN, if_neg (by rw [hx]; simp)]
  unfold shk
  have e1 : ks.length - size = (ks.length - size - 1) + 1 := by omega
  have e2 : (ks.take k ++ ks.drop (k + 1)).length - size = ks.length - size - 1 := by simp; omega
  rw [e1, e2]
  exact key ks k _ hk h1 h2
theorem shk_full {size : Nat} {ks : List Kb} (h : ∀ j, j < ks.length → (ks.getD j ⟨0, 0, false, []⟩).idle = false) : shk size ks = ks := by
  have key : ∀ (ks : List Kb) (n : Nat), (∀ j, j < ks.length → (ks.getD j ⟨0, 0, false, []⟩).idle = false) → shkN n ks = ks := by
    intro ks
    induction ks with
    | nil => intro n _; cases n <;> rfl
    | cons x ks ih =>
      intro n h
      have hx : x.idle = false := h 0 (by simp)
      cases n with
      | zero => rfl
      | succ n => rw [shkN, if_neg (by rw [hx]; simp), ih _ (fun j hj => h (j + 1) (by simpa using hj))]
  exact key ks _ h
theorem kb_getD (ms : List Md) (k : Nat) : (ms.map Md.kb).getD k ⟨0, 0, false, []⟩ = (ms.getD k md0).kb := by
  rw [List.getD_eq_getElem?_getD, List.getD_eq_getElem?_getD, List.getElem?_map]
  cases ms[k]? <;> rfl
/-- The row of the model with one left out. -/
theorem mo_cut {F : Nat → Prop} {w : World} {mm e size : Nat} {reads : Int} {ms : List Md} {lv : Value} (h : MoAt F w mm lv e size reads ms) (hl : ms.length ≤ 1000000) (k : Nat) (hk : k < ms.length) (g c : Nat) (hlv : lv = .slice (some ⟨g, 0, none⟩) ms.length c) :
    ∃ v1 W1 v2 W2 v3 W3, (Builtin.append_ #[29, 29] 29 #[.slice none 0 0, .slice (if c = k + 1 then some ⟨g, 0, none⟩ else some ⟨g, (k + 1) * 4, none⟩) (ms.length - (k + 1)) (c - (k + 1))]).run Try.prog w = .ok v1 W1 ∧
      (Builtin.append_ #[29, 29] 29 #[.slice none 0 0, .slice (some ⟨g, 0, none⟩) k c]).run Try.prog W1 = .ok v2 W2 ∧ (Builtin.append_ #[29, 29] 29 #[v2, v1]).run Try.prog W2 = .ok v3 W3 ∧
      w.grownBy W1 none ∧ W1.grownBy W2 none ∧ W2.grownBy W3 v2.ownBlock ∧ (∀ q, v2.ownBlock = some q → w.heap.size ≤ q) ∧ W1.ownsRow w.heap.size 39 4 v1 (ms.drop (k + 1)).length (mdCs (ms.drop (k + 1))) ∧ W2.ownsRow w.heap.size 39 4 v2 (ms.take k).length (mdCs (ms.take k)) ∧ W3.ownsRow w.heap.size 39 4 v3 (ms.take k ++ ms.drop (k + 1)).length (mdCs (ms.take k ++ ms.drop (k + 1))) := by
  subst hlv
  have hs := h.row.cells rfl
  obtain ⟨g', c', hv, hc, hF, hgl, _, _⟩ := h.cells (by omega)
  cases hv
  obtain ⟨v1, W1, r1, o1, g1⟩ : ∃ v1 W1, (Builtin.append_ #[29, 29] 29 #[.slice none 0 0, .slice (if c = k + 1 then some ⟨g, 0, none⟩ else some ⟨g, (k + 1) * 4, none⟩) (ms.length - (k + 1)) (c - (k + 1))]).run Try.prog w = .ok v1 W1 ∧ W1.ownsRow w.heap.size 39 4 v1 (ms.length - (k + 1)) (mdCs (ms.drop (k + 1))) ∧ w.grownBy W1 none := by
    by_cases hck : c = k + 1
    · rw [if_pos hck]
      refine kapp_nil w g 0 (ms.length - (k + 1)) (c - (k + 1)) (ms.drop (k + 1)) (by simp) (by omega) (fun j u hj => ?_)
      rw [List.drop_eq_nil_of_le (by omega)] at hj
      simp [mdCs] at hj
    · rw [if_neg hck]
      refine kapp_nil w g ((k + 1) * 4) (ms.length - (k + 1)) (c - (k + 1)) (ms.drop (k + 1)) (by simp) (by omega) (fun j u hj => ?_)
      rw [← mdCs_drop, List.getElem?_drop] at hj
      have := hs _ u hj
      rw [add_at] at this ⊢
      rw [← this]
      congr 1
      simp
  have k1 : W1.heap[g]? = w.heap[g]? := g1.block g hgl (by simp)
  obtain ⟨v2, W2, r2, o2, g2⟩ := kapp_nil W1 g 0 k c (ms.take k) (by simp; omega) (by omega) (fun j u hj => by
    rw [← mdCs_take, List.getElem?_take] at hj
    split at hj
    · have := hs j u hj
      rw [World.cell?_of_block (w := w) (by rw [add_block]; exact k1)]
      exact this
    · cases hj)
  have hs1 := g1.size
  have e1 : ms.length - (k + 1) = (ms.drop (k + 1)).length := by simp
  have e2 : k = (ms.take k).length := by simp; omega
  rw [e1] at o1
  have o2' : W2.ownsRow w.heap.size 39 4 v2 (ms.take k).length (mdCs (ms.take k)) := by
    have : (ms.take k).length = k := e2.symm
    rw [this]
    exact owns_base o2 hs1
  have o1' : W2.ownsRow 0 39 4 v1 (ms.drop (k + 1)).length (mdCs (ms.drop (k + 1))) := owns_base (owns_at o1 (fun q hq => g2.block q (o1.lt q hq).2 (by simp))) (Nat.zero_le _)
  obtain ⟨v3, W3, r3, o3, g3⟩ := kapp_two W2 w.heap.size v2 v1 (ms.take k) (ms.drop (k + 1)) o2' o1' (by have := g2.size; omega) (by simp; omega)
  exact ⟨v1, W1, v2, W2, v3, W3, r1, r2, r3, g1, g2, g3, fun q hq => (o2'.lt q hq).1, o1, o2', o3⟩
end Go.Proofs.Ytmbhjheoomlggaa
