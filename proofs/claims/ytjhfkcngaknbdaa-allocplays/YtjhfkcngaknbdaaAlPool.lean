/-
  The pool's own calls: taken and set.
-/
import Derived.Test.YtjhfkcngaknbdaaAlMem
namespace Go.Proofs.Ytjhfkcngaknbdaa
open Go Go.Proofs Go.RowKit Go.Shelf

/-- Numbers of a thing of group k. -/
theorem thing_nums {n k i S : Nat} (hn : n = k * S + i) (hi : i < S) (hb : n < 100000) (hS : S ≤ 1000) : Int.tdiv (n : Int) (S : Int) = k ∧ Int.tmod (n : Int) (S : Int) = i ∧ IntKind.i64.wrap (k : Int) = k ∧ IntKind.i64.wrap (i : Int) = i ∧ ¬ (S : Int) = 0 ∧ ((S : Int) == 0) = false ∧ ¬ S = 0 := by
  have e1 : n / S = k := by rw [hn]; exact div_at hi
  have e2 : n % S = i := by rw [hn]; exact mod_at hi
  have hk : k ≤ n := by rw [← e1]; exact Nat.div_le_self _ _
  refine ⟨?_, ?_, ?_, ?_, by omega, by simp; omega, by omega⟩
  · rw [Int.tdiv_eq_ediv_of_nonneg (by omega), ← e1]; rfl
  · rw [Int.tmod_eq_emod_of_nonneg (by omega), ← e2]; rfl
  · rw [IntKind.wrap_i64]; omega
  · rw [IntKind.wrap_i64]; omega
theorem exec_storeB {ev : Operand → Value} {oi : Oper} {p x : Operand} {a : Addr} {ao : Option Addr} {l c : Nat} {v : Value} {W : World} (ho : oi.op = .store 39 p x) (hp : ev p = .pointer (some a)) (hx : ev x = .slice ao l c) (hc : W.cell? a = some v) (hf : W.frozen? a = false) : (execOp ev oi).run Try.prog W = .ok .skip (W.setCell a (.slice ao l c)) := by
  refine exec_store ho hp hx ?_
  simp [go_sem, hc, hf]
/-- What an order leans on: the pool's size, and one of its rows. -/
abbrev P2 (b off S k : Nat) (ao : Option Addr) (l c : Nat) (W : World) : Prop := W.cell? ⟨b, off + 1, none⟩ = some (.int .i64 S) ∧ W.cell? ⟨b, off + 2 + k, none⟩ = some (.slice ao l c)
set_option maxRecDepth 100000 in
set_option maxHeartbeats 4000000 in
theorem taken_any (w : World) (b off G S L : Nat) (t : Nat → Bool) (h : PlAt w b off G S L t) (hf : Fit G S L) (n : Nat) (hn : n < G * S) :
    Calls Try.prog 48 #[.pointer (some ⟨b, off, none⟩), .int .i64 n] w fun e w' => e = .returned (.bool (t n)) ∧ Below w.heap.size w w' := by
  have hS : 0 < S := by rcases Nat.eq_zero_or_pos S with rfl | h' <;> omega
  obtain ⟨k, hk⟩ : ∃ k, k = n / S := ⟨_, rfl⟩
  obtain ⟨i, hi⟩ : ∃ i, i = n % S := ⟨_, rfl⟩
  have hkG : k < G := by rw [hk]; exact Nat.div_lt_of_lt_mul (by rw [Nat.mul_comm]; exact hn)
  have hiS : i < S := by rw [hi]; exact Nat.mod_lt _ hS
  have hnk : n = k * S + i := by rw [hk, hi]; exact split_at hS
  have hbig : n < 100000 := by have h1 := hf.g; have h2 := hf.s; have := Nat.mul_le_mul h1 h2; omega
  obtain ⟨n1, n2, n3, n4, n5, n6, n7⟩ := thing_nums hnk hiS hbig hf.s
  obtain ⟨ao, l, c, xs, hc, hr⟩ := h.rows k hkG
  have hc1 := h.c1
  have hk8 : k < 8 := by have := hf.g; omega
  have hkt : ((k : Int)).toNat = k := by simp
  have hk0 : (0 : Int) ≤ (k : Int) := by omega
  have hk8' : (k : Int) < 8 := by omega
  have hm := hf.m
  have hget : getI xs (i : Int) = t n := by
    rw [getI_nat, hr.row.2.2 i, decide_eq_true hiS, Bool.true_and, hnk]
  have HGET : Hid (∀ (W : World) (e : W.heap = w.heap), Calls Try.prog 58 #[.slice ao l c, .int .i64 i] W fun e w' => e = .returned (.bool (t n)) ∧ ∃ m, w' = W.drewN m) := Hid.mk (fun W e => by
    have hb : BAt W ao l xs := by rw [hr.len]; exact hr.bat.kept (fun a _ _ => by rw [e])
    have := Bt.get_any W ao l c xs hb hr.row.2.1 i ⟨by omega, by omega⟩
    rw [hget] at this
    exact this)
  clear hget hr hnk hk hi hn hbig h hf hm hS hiS hkG
  generalize t n = tn at *
  go_enter Try.func48, Try.ntmps48
  go_wp2_with fail
  refine wp_region_held_drew (S := P2 b off S k ao l c) (by kernel_rfl) ⟨hc1, hc⟩ (fun hH => ?_)
  change wpAnyH Try.prog Region.Mode.any _ _ _ 19 _ _ _
  refine takeH 0 5 (.pointer (some ⟨b, off, none⟩)) rfl (by kernel_rfl) (by kernel_rfl) (by kernel_rfl) (by kernel_rfl) (fun _ _ _ h => h) (by kernel_rfl) (fun w hw => by kernel_rfl) hH ?_
  simp only [List.setIfInBounds_toArray, List.set_cons_zero, List.set_cons_succ]
  refine takeH 1 6 (.int .i64 n) rfl (by kernel_rfl) (by kernel_rfl) (by kernel_rfl) (by kernel_rfl) (fun _ _ _ h => h) (by kernel_rfl) (fun w hw => by kernel_rfl) hH ?_
  simp only [List.setIfInBounds_toArray, List.set_cons_zero, List.set_cons_succ]
  refine takeH 2 7 (.pointer (some ⟨b, off, none⟩)) rfl (by kernel_rfl) (by kernel_rfl) (by kernel_rfl) (by kernel_rfl) (fun _ _ _ h => h) (by kernel_rfl) (fun w hw => by kernel_rfl) hH ?_
  simp only [List.setIfInBounds_toArray, List.set_cons_zero, List.set_cons_succ]
  refine takeH 3 8 (.pointer (some ⟨b, off, none⟩)) rfl (by kernel_rfl) (by kernel_rfl) (by kernel_rfl) (by kernel_rfl) (fun _ _ _ h => h) (by kernel_rfl) (fun w hw => by (try dsimp only at hw); go_simp) hH ?_
  simp only [List.setIfInBounds_toArray, List.set_cons_zero, List.set_cons_succ]
  refine takeH 4 9 (.pointer (some ⟨b, off + 1, none⟩)) rfl (by kernel_rfl) (by kernel_rfl) (by kernel_rfl) (by kernel_rfl) (fun _ _ _ h => h) (by kernel_rfl) (fun w hw => by (try dsimp only at hw); go_simp) hH ?_
  simp only [List.setIfInBounds_toArray, List.set_cons_zero, List.set_cons_succ]
  refine takeH 5 10 (.int .i64 S) rfl (by kernel_rfl) (by kernel_rfl) (by kernel_rfl) (by kernel_rfl) (fun _ _ _ h => h) (by kernel_rfl) (fun w hw => by (try dsimp only at hw); go_simp) hH ?_
  simp only [List.setIfInBounds_toArray, List.set_cons_zero, List.set_cons_succ]
  refine takeH 6 11 (.int .i64 k) rfl (by kernel_rfl) (by kernel_rfl) (by kernel_rfl) (by kernel_rfl) (fun _ _ _ h => h) (by kernel_rfl) (fun w hw => by (try dsimp only at hw); go_simp) hH ?_
  simp only [List.setIfInBounds_toArray, List.set_cons_zero, List.set_cons_succ]
  refine takeH 7 12 (.pointer (some ⟨b, off, none⟩)) rfl (by kernel_rfl) (by kernel_rfl) (by kernel_rfl) (by kernel_rfl) (fun _ _ _ h => h) (by kernel_rfl) (fun w hw => by (try dsimp only at hw); go_simp) hH ?_
  simp only [List.setIfInBounds_toArray, List.set_cons_zero, List.set_cons_succ]
  refine takeH 8 13 (.pointer (some ⟨b, off + 2, none⟩)) rfl (by kernel_rfl) (by kernel_rfl) (by kernel_rfl) (by kernel_rfl) (fun _ _ _ h => h) (by kernel_rfl) (fun w hw => by (try dsimp only at hw); go_simp) hH ?_
  simp only [List.setIfInBounds_toArray, List.set_cons_zero, List.set_cons_succ]
  refine takeH 9 14 (.pointer (some ⟨b, off + 2 + k, none⟩)) rfl (by kernel_rfl) (by kernel_rfl) (by kernel_rfl) (by kernel_rfl) (fun _ _ _ h => h) (by kernel_rfl) (fun w hw => by (try dsimp only at hw); go_simp) hH ?_
  simp only [List.setIfInBounds_toArray, List.set_cons_zero, List.set_cons_succ]
  refine takeH 10 15 (.slice ao l c) rfl (by kernel_rfl) (by kernel_rfl) (by kernel_rfl) (by kernel_rfl) (fun _ _ _ h => h) (by kernel_rfl) (fun w hw => by (try dsimp only at hw); go_simp) hH ?_
  simp only [List.setIfInBounds_toArray, List.set_cons_zero, List.set_cons_succ]
  refine takeH 11 16 (.int .i64 n) rfl (by kernel_rfl) (by kernel_rfl) (by kernel_rfl) (by kernel_rfl) (fun _ _ _ h => h) (by kernel_rfl) (fun w hw => by kernel_rfl) hH ?_
  simp only [List.setIfInBounds_toArray, List.set_cons_zero, List.set_cons_succ]
  refine takeH 12 17 (.pointer (some ⟨b, off, none⟩)) rfl (by kernel_rfl) (by kernel_rfl) (by kernel_rfl) (by kernel_rfl) (fun _ _ _ h => h) (by kernel_rfl) (fun w hw => by kernel_rfl) hH ?_
  simp only [List.setIfInBounds_toArray, List.set_cons_zero, List.set_cons_succ]
  refine takeH 13 18 (.pointer (some ⟨b, off, none⟩)) rfl (by kernel_rfl) (by kernel_rfl) (by kernel_rfl) (by kernel_rfl) (fun _ _ _ h => h) (by kernel_rfl) (fun w hw => by (try dsimp only at hw); go_simp) hH ?_
  simp only [List.setIfInBounds_toArray, List.set_cons_zero, List.set_cons_succ]
  refine takeH 14 19 (.pointer (some ⟨b, off + 1, none⟩)) rfl (by kernel_rfl) (by kernel_rfl) (by kernel_rfl) (by kernel_rfl) (fun _ _ _ h => h) (by kernel_rfl) (fun w hw => by (try dsimp only at hw); go_simp) hH ?_
  simp only [List.setIfInBounds_toArray, List.set_cons_zero, List.set_cons_succ]
  refine takeH 15 20 (.int .i64 S) rfl (by kernel_rfl) (by kernel_rfl) (by kernel_rfl) (by kernel_rfl) (fun _ _ _ h => h) (by kernel_rfl) (fun w hw => by (try dsimp only at hw); go_simp) hH ?_
  simp only [List.setIfInBounds_toArray, List.set_cons_zero, List.set_cons_succ]
  refine takeH 16 21 (.int .i64 i) rfl (by kernel_rfl) (by kernel_rfl) (by kernel_rfl) (by kernel_rfl) (fun _ _ _ h => h) (by kernel_rfl) (fun w hw => by (try dsimp only at hw); go_simp) hH ?_
  simp only [List.setIfInBounds_toArray, List.set_cons_zero, List.set_cons_succ]
  refine stepH_call 17 22 rfl (by kernel_rfl) (by kernel_rfl) (by kernel_rfl) 58 #[.tmp 15, .tmp 21] #[39, 3] (by kernel_rfl) (enters_of Try.func58 (by kernel_rfl) rfl) #[.slice ao l c, .int .i64 i] (by kernel_rfl) (HGET.out _ rfl) ?_
  rintro e w5 ⟨rfl, m, hm⟩
  subst w5
  have hH5 : P2 b off S k ao l c (w.drew.drewN m) := hH
  refine ⟨_, rfl, hH5, ?_⟩
  simp only [List.setIfInBounds_toArray, List.set_cons_zero, List.set_cons_succ]
  refine takeH 18 4 (.bool tn) rfl (by kernel_rfl) (by kernel_rfl) (by kernel_rfl) (by kernel_rfl) (fun _ _ _ h => h) (by kernel_rfl) (fun w hw => by kernel_rfl) hH5 ?_
  simp only [List.setIfInBounds_toArray, List.set_cons_zero, List.set_cons_succ]
  refine wpAnyH_done (by kernel_rfl) ?_ _
  go_wp2
  go_ret
  exact ⟨rfl, rfl, rfl, rfl, Nat.le_refl _, fun _ _ => rfl⟩
set_option maxRecDepth 100000 in
set_option maxHeartbeats 4000000 in
theorem set_any (w : World) (b off G S L : Nat) (t : Nat → Bool) (h : PlAt w b off G S L t) (hf : Fit G S L) (n : Nat) (hn : n < G * S) (on : Bool) :
    Calls Try.prog 45 #[.pointer (some ⟨b, off, none⟩), .int .i64 n, .bool on] w fun e w' => (∃ v, e = .returned v) ∧ PlAt w' b off G S L (updT t n on) ∧ Turned b off w w' := by
  have hS : 0 < S := by rcases Nat.eq_zero_or_pos S with rfl | h' <;> omega
  obtain ⟨k, hk⟩ : ∃ k, k = n / S := ⟨_, rfl⟩
  obtain ⟨i, hi⟩ : ∃ i, i = n % S := ⟨_, rfl⟩
  have hkG : k < G := by rw [hk]; exact Nat.div_lt_of_lt_mul (by rw [Nat.mul_comm]; exact hn)
  have hiS : i < S := by rw [hi]; exact Nat.mod_lt _ hS
  have hnk : n = k * S + i := by rw [hk, hi]; exact split_at hS
  have hbig : n < 100000 := by have h1 := hf.g; have h2 := hf.s; have := Nat.mul_le_mul h1 h2; omega
  obtain ⟨n1, n2, n3, n4, n5, n6, n7⟩ := thing_nums hnk hiS hbig hf.s
  obtain ⟨ao, l, c, xs, hc, hr⟩ := h.rows k hkG
  have hc1 := h.c1
  have hk8 : k < 8 := by have := hf.g; omega
  have hkt : ((k : Int)).toNat = k := by simp
  have hk0 : (0 : Int) ≤ (k : Int) := by omega
  have hk8' : (k : Int) < 8 := by omega
  have hm := hf.m
  have hb0 := h.lt
  have HWITH : Hid (∀ (W : World) (e : W.heap = w.heap) (_ : W.os = w.os) (_ : W.tape = w.tape) (_ : W.output = w.output), Calls Try.prog 56 #[.slice ao l c, .int .i64 i, .bool on] W fun e w' => ∃ ao' l' c', e = .returned (.slice ao' l' c') ∧ (w'.cell? ⟨b, off + 1, none⟩ = some (.int .i64 S) ∧ (∃ u, w'.cell? ⟨b, off + 2 + k, none⟩ = some u) ∧ w'.frozen? ⟨b, off + 2 + k, none⟩ = false) ∧ Turned b off w w' ∧ PlAt w' b off G S L t ∧ ∃ xs', RwAt w' b L S (updT t n on) k ao' l' c' xs') := Hid.mk (fun W e e1 e2 e3 => by
    have hbW : Below W.heap.size w W := ⟨e1, e2, e3, by rw [e]; exact Nat.le_refl _, fun j _ => by rw [e]⟩
    have hb : BAt W ao l xs := by rw [hr.len]; exact hr.bat.kept (fun a _ _ => by rw [e])
    refine (Bt.with_any W ao l c i ⟨by omega, by omega⟩ on xs hb hr.row.2.1 hr.none (by rw [hr.len]; omega)).mono ?_
    rintro ee w' ⟨v', rfl, hown, hB⟩
    obtain ⟨ao', c', rfl, hbat, hap, hpos⟩ := owns_BAt hown
    have hBw : Below w.heap.size w w' := by
      have := hbW.trans (hB.mono (Nat.le_refl _))
      rw [e] at this
      exact this
    have hP := h.below hBw
    have h2 := hP.c1
    obtain ⟨ao2, l2, c2, xs2, h3, _⟩ := hP.rows k hkG
    refine ⟨ao', l, c', rfl, ⟨h2, ⟨_, h3⟩, hP.free _⟩, Turned.of_below hBw hb0 rfl, hP, withI xs i on, ?_⟩
    refine ⟨by rw [← hr.len]; exact hbat, hr.len, by rw [hnk]; exact hr.row.put hf.l hiS, ?_, fun a ea => ?_⟩
    · intro hno
      rcases hown.2 with ⟨e', e0⟩ | ⟨g, cap, cur, e', _⟩
      · cases e'; exact ⟨rfl, rfl⟩
      · rw [hno] at e'; cases e'
    · obtain ⟨h5, h6, _⟩ := hap a ea
      refine ⟨by rw [e] at h5; omega, (hown.lt _ h6).2⟩)
  have HST : Hid (∀ (W : World) (ao' : Option Addr) (l' c' : Nat), W.cell? ⟨b, off + 1, none⟩ = some (.int .i64 S) → (W.setCell ⟨b, off + 2 + k, none⟩ (.slice ao' l' c')).cell? ⟨b, off + 1, none⟩ = some (.int .i64 S)) := Hid.mk (fun W ao' l' c' h1 => by
    exact (World.cell?_setCell_other W ⟨b, off + 2 + k, none⟩ ⟨b, off + 1, none⟩ _ (by simp)).trans h1)
  have HPUT : Hid (∀ (W : World) (ao' : Option Addr) (l' c' : Nat) (xs' : List Int), PlAt W b off G S L t → RwAt W b L S (updT t n on) k ao' l' c' xs' → PlAt (W.setCell ⟨b, off + 2 + k, none⟩ (.slice ao' l' c')) b off G S L (updT t n on) ∧ Turned b off W (W.setCell ⟨b, off + 2 + k, none⟩ (.slice ao' l' c'))) := Hid.mk (fun W ao' l' c' xs' h1 h2 => h1.put hkG hk.symm h2)
  clear hr hnk hk hi hn hbig h hf hm hS hiS hkG hb0
  go_enter Try.func45, Try.ntmps45
  go_wp2_with fail
  refine wp_region_held_drew (S := fun W => W.cell? ⟨b, off + 1, none⟩ = some (.int .i64 S)) (by kernel_rfl) hc1 (fun hH => ?_)
  change wpAnyH Try.prog Region.Mode.any _ _ _ 20 _ _ _
  refine takeH 0 13 (.pointer (some ⟨b, off, none⟩)) rfl (by kernel_rfl) (by kernel_rfl) (by kernel_rfl) (by kernel_rfl) (fun _ _ _ h => h) (by kernel_rfl) (fun w hw => by kernel_rfl) hH ?_
  simp only [List.setIfInBounds_toArray, List.set_cons_zero, List.set_cons_succ]
  refine takeH 1 14 (.int .i64 k) rfl (by kernel_rfl) (by kernel_rfl) (by kernel_rfl) (by kernel_rfl) (fun _ _ _ h => h) (by kernel_rfl) (fun w hw => by kernel_rfl) hH ?_
  simp only [List.setIfInBounds_toArray, List.set_cons_zero, List.set_cons_succ]
  refine takeH 2 15 (.pointer (some ⟨b, off, none⟩)) rfl (by kernel_rfl) (by kernel_rfl) (by kernel_rfl) (by kernel_rfl) (fun _ _ _ h => h) (by kernel_rfl) (fun w hw => by kernel_rfl) hH ?_
  simp only [List.setIfInBounds_toArray, List.set_cons_zero, List.set_cons_succ]
  refine takeH 3 16 (.int .i64 k) rfl (by kernel_rfl) (by kernel_rfl) (by kernel_rfl) (by kernel_rfl) (fun _ _ _ h => h) (by kernel_rfl) (fun w hw => by kernel_rfl) hH ?_
  simp only [List.setIfInBounds_toArray, List.set_cons_zero, List.set_cons_succ]
  refine takeH 4 17 (.pointer (some ⟨b, off, none⟩)) rfl (by kernel_rfl) (by kernel_rfl) (by kernel_rfl) (by kernel_rfl) (fun _ _ _ h => h) (by kernel_rfl) (fun w hw => by (try dsimp only at hw); go_simp) hH ?_
  simp only [List.setIfInBounds_toArray, List.set_cons_zero, List.set_cons_succ]
  refine takeH 5 18 (.pointer (some ⟨b, off + 2, none⟩)) rfl (by kernel_rfl) (by kernel_rfl) (by kernel_rfl) (by kernel_rfl) (fun _ _ _ h => h) (by kernel_rfl) (fun w hw => by (try dsimp only at hw); go_simp) hH ?_
  simp only [List.setIfInBounds_toArray, List.set_cons_zero, List.set_cons_succ]
  refine takeH 6 19 (.pointer (some ⟨b, off + 2 + k, none⟩)) rfl (by kernel_rfl) (by kernel_rfl) (by kernel_rfl) (by kernel_rfl) (fun _ _ _ h => h) (by kernel_rfl) (fun w hw => by (try dsimp only at hw); go_simp) hH ?_
  simp only [List.setIfInBounds_toArray, List.set_cons_zero, List.set_cons_succ]
  refine takeH 8 21 (.int .i64 n) rfl (by kernel_rfl) (by kernel_rfl) (by kernel_rfl) (by kernel_rfl) (fun _ _ _ h => h) (by kernel_rfl) (fun w hw => by kernel_rfl) hH ?_
  simp only [List.setIfInBounds_toArray, List.set_cons_zero, List.set_cons_succ]
  refine takeH 9 22 (.pointer (some ⟨b, off, none⟩)) rfl (by kernel_rfl) (by kernel_rfl) (by kernel_rfl) (by kernel_rfl) (fun _ _ _ h => h) (by kernel_rfl) (fun w hw => by kernel_rfl) hH ?_
  simp only [List.setIfInBounds_toArray, List.set_cons_zero, List.set_cons_succ]
  refine takeH 10 23 (.pointer (some ⟨b, off, none⟩)) rfl (by kernel_rfl) (by kernel_rfl) (by kernel_rfl) (by kernel_rfl) (fun _ _ _ h => h) (by kernel_rfl) (fun w hw => by (try dsimp only at hw); go_simp) hH ?_
  simp only [List.setIfInBounds_toArray, List.set_cons_zero, List.set_cons_succ]
  refine takeH 11 24 (.pointer (some ⟨b, off + 1, none⟩)) rfl (by kernel_rfl) (by kernel_rfl) (by kernel_rfl) (by kernel_rfl) (fun _ _ _ h => h) (by kernel_rfl) (fun w hw => by (try dsimp only at hw); go_simp) hH ?_
  simp only [List.setIfInBounds_toArray, List.set_cons_zero, List.set_cons_succ]
  refine takeH 12 25 (.int .i64 S) rfl (by kernel_rfl) (by kernel_rfl) (by kernel_rfl) (by kernel_rfl) (fun _ _ _ h => h) (by kernel_rfl) (fun w hw => by (try dsimp only at hw); go_simp) hH ?_
  simp only [List.setIfInBounds_toArray, List.set_cons_zero, List.set_cons_succ]
  refine takeH 13 26 (.int .i64 i) rfl (by kernel_rfl) (by kernel_rfl) (by kernel_rfl) (by kernel_rfl) (fun _ _ _ h => h) (by kernel_rfl) (fun w hw => by (try dsimp only at hw); go_simp) hH ?_
  simp only [List.setIfInBounds_toArray, List.set_cons_zero, List.set_cons_succ]
  refine takeH 14 27 (.bool on) rfl (by kernel_rfl) (by kernel_rfl) (by kernel_rfl) (by kernel_rfl) (fun _ _ _ h => h) (by kernel_rfl) (fun w hw => by kernel_rfl) hH ?_
  simp only [List.setIfInBounds_toArray, List.set_cons_zero, List.set_cons_succ]
  refine takeH 16 29 (.pointer (some ⟨b, off, none⟩)) rfl (by kernel_rfl) (by kernel_rfl) (by kernel_rfl) (by kernel_rfl) (fun _ _ _ h => h) (by kernel_rfl) (fun w hw => by (try dsimp only at hw); go_simp) hH ?_
  simp only [List.setIfInBounds_toArray, List.set_cons_zero, List.set_cons_succ]
  refine takeH 17 30 (.pointer (some ⟨b, off + 2, none⟩)) rfl (by kernel_rfl) (by kernel_rfl) (by kernel_rfl) (by kernel_rfl) (fun _ _ _ h => h) (by kernel_rfl) (fun w hw => by (try dsimp only at hw); go_simp) hH ?_
  simp only [List.setIfInBounds_toArray, List.set_cons_zero, List.set_cons_succ]
  refine stepH 7 20 (.slice ao l c) rfl (by kernel_rfl) (by kernel_rfl) (by kernel_rfl) (by go_simp) hH ?_
  simp only [List.setIfInBounds_toArray, List.set_cons_zero, List.set_cons_succ]
  refine stepH_call 15 28 rfl (by kernel_rfl) (by kernel_rfl) (by kernel_rfl) 56 #[.tmp 20, .tmp 26, .tmp 27] #[39, 3, 4] (by kernel_rfl) (enters_of Try.func56 (by kernel_rfl) rfl) #[.slice ao l c, .int .i64 i, .bool on] (by kernel_rfl) (HWITH.out _ rfl rfl rfl rfl) ?_
  rintro e w5 ⟨ao5, l5, c5, rfl, ⟨hH5, ⟨u5, hu5⟩, hf5⟩, hB5⟩
  refine ⟨_, rfl, hH5, ?_⟩
  simp only [List.setIfInBounds_toArray, List.set_cons_zero, List.set_cons_succ]
  refine takeH 18 31 (.pointer (some ⟨b, off + 2 + k, none⟩)) rfl (by kernel_rfl) (by kernel_rfl) (by kernel_rfl) (by kernel_rfl) (fun _ _ _ h => h) (by kernel_rfl) (fun w hw => by (try dsimp only at hw); go_simp) hH5 ?_
  simp only [List.setIfInBounds_toArray, List.set_cons_zero, List.set_cons_succ]
  refine stepH_one 19 (by kernel_rfl) ?_
  refine opH_store 19 (w5.setCell ⟨b, off + 2 + k, none⟩ (.slice ao5 l5 c5)) rfl (by kernel_rfl) (by kernel_rfl) (exec_storeB (p := .tmp 31) (x := .tmp 28) (by kernel_rfl) (by kernel_rfl) (by kernel_rfl) hu5 hf5) (HST.out w5 _ _ _ hH5) ?_
  refine wpAnyH_done (by kernel_rfl) ?_ _
  go_wp2
  go_end0
  obtain ⟨hT5, hP5, xs5, hr5⟩ := hB5
  obtain ⟨hP6, hT6⟩ := HPUT.out _ _ _ _ _ hP5 hr5
  exact ⟨⟨_, rfl⟩, hP6, hT5.trans hT6⟩
end Go.Proofs.Ytjhfkcngaknbdaa
