/-
  The first free thing of a pool, from a group on: takeFirst.
-/
import Derived.Test.YtjhfkcngaknbdaaAlTakeA
namespace Go.Proofs.Ytjhfkcngaknbdaa
open Go Go.Proofs Go.RowKit Go.Shelf
attribute [local go_sem] Oper.semAt_some

abbrev boxP (w : World) (b off : Nat) (W : World) : Prop := W.heap[w.heap.size]? = some (.cells #[.pointer (some ⟨b, off, none⟩)] 68 (0, 0))
/-- Between two rounds of takeFirst's loop. -/
def TI (w : World) (b off G S L g0 : Nat) (t : Nat → Bool) (pre : List Nat) (W : World) : Prop :=
  (∀ p ∈ pre, ∀ i, i < S → t ((g0 + p) % G * S + i) = true) ∧ boxP w b off W ∧ W.heap[w.heap.size + 1]? = some (.cells #[.int .i64 0] 3 (0, 0)) ∧ W.heap[w.heap.size + 1 + 1]? = some (.cells #[.bool false] 4 (0, 0)) ∧ PlAt W b off G S L t ∧ Turned b off w W ∧ w.heap.size + 5 ≤ W.heap.size
/-- A round has found one. -/
def TX (w : World) (b off G S L g0 : Nat) (t : Nat → Bool) (c : Code) (pre : List Nat) (W : World) : Prop :=
  c = .ret ∧ ∃ p x i, pre = p ++ [x] ∧ (∀ q ∈ p, ∀ j, j < S → t ((g0 + q) % G * S + j) = true) ∧ i < S ∧ (∀ j, j < i → t ((g0 + x) % G * S + j) = true) ∧ t ((g0 + x) % G * S + i) = false ∧
    W.heap[w.heap.size + 1]? = some (.cells #[.int .i64 (((g0 + x) % G * S + i : Nat) : Int)] 3 (0, 0)) ∧ W.heap[w.heap.size + 1 + 1]? = some (.cells #[.bool true] 4 (0, 0)) ∧ PlAt W b off G S L (updT t ((g0 + x) % G * S + i) true) ∧ Turned b off w W ∧ w.heap.size + 5 ≤ W.heap.size
theorem TI_own (w : World) (b off G S L g0 : Nat) (t : Nat → Bool) (hb : b < w.heap.size) : OwnFrom (w.heap.size + 5) (TI w b off G S L g0 t) := by
  intro pre W W' row h hg hr
  obtain ⟨h0, h1, h2, h3, h4, h5, h6⟩ := h
  have hc := fun r e => (hr r e).2
  exact ⟨h0, Bt.keep_cells h1 hg hc, Bt.keep_cells h2 hg hc, Bt.keep_cells h3 hg hc, h4.grown hg hc, h5.grown hb hg (fun r e => by have := (hr r e).1; omega), Nat.le_trans h6 hg.size⟩
theorem TX_own (w : World) (b off G S L g0 : Nat) (t : Nat → Bool) (hb : b < w.heap.size) (c : Code) : OwnFrom (w.heap.size + 5) (TX w b off G S L g0 t c) := by
  intro pre W W' row h hg hr
  obtain ⟨e, p, x, i, h0, h1, h2, h3, h4, h5, h6, h7, h8, h9⟩ := h
  have hc := fun r e => (hr r e).2
  exact ⟨e, p, x, i, h0, h1, h2, h3, h4, Bt.keep_cells h5 hg hc, Bt.keep_cells h6 hg hc, h7.grown hg hc, h8.grown hb hg (fun r e => by have := (hr r e).1; omega), Nat.le_trans h9 hg.size⟩
/-- What the orders of a round lean on. -/
abbrev P3 (w : World) (b off S k : Nat) (ao : Option Addr) (l c : Nat) (W : World) : Prop := W.cell? ⟨w.heap.size, 0, none⟩ = some (.pointer (some ⟨b, off, none⟩)) ∧ W.cell? ⟨b, off + 1, none⟩ = some (.int .i64 S) ∧ W.cell? ⟨b, off + 2 + k, none⟩ = some (.slice ao l c)
set_option maxRecDepth 100000 in
set_option maxHeartbeats 4000000 in
theorem takefirst_any (w : World) (b off G S L : Nat) (t : Nat → Bool) (h : PlAt w b off G S L t) (hf : Fit G S L) (group : Int) :
    Calls Try.prog 29 #[.pointer (some ⟨b, off, none⟩), .int .i64 group] w fun e w' => e = .returned (fstV (nextN t (G * S) (grpOf G group * S))) ∧ PlAt w' b off G S L (updO t (nextN t (G * S) (grpOf G group * S))) ∧ Turned b off w w' := by
  have hbw := h.lt
  obtain ⟨g0, hg0⟩ : ∃ g0, g0 = grpOf G group := ⟨_, rfl⟩
  have hg8 : g0 ≤ 8 := by
    have := hf.g
    rw [hg0]
    unfold grpOf
    split <;> omega
  rw [← hg0]
  have HG0 := Hid.mk hg0
  clear hg0
  have hB0 : Below w.heap.size w (((w.alloc (.cells #[.pointer (some ⟨b, off, none⟩)] 68)).alloc (.cells #[.int .i64 0] 3)).alloc (.cells #[.bool false] 4)) := (((Below.refl _ w).alloc (Nat.le_refl _) _).alloc (by simp) _).alloc (by simp; omega) _
  have hc0 : (((w.alloc (.cells #[.pointer (some ⟨b, off, none⟩)] 68)).alloc (.cells #[.int .i64 0] 3)).alloc (.cells #[.bool false] 4)).cell? ⟨b, off, none⟩ = some (.int .i64 G) := (h.below hB0).c0
  refine (callsIn_wide (n := 5)).1 ?_
  refine callsIn_of_wp_marks Try.func29 rfl trivial ?_ rfl
  simp only [Try.ntmps29, List.size_toArray, List.length_cons, List.length_nil, Nat.reduceAdd, Nat.reduceSub, Array.replicate_succ, Array.replicate_zero, List.push_toArray, List.append_toArray, List.nil_append, List.cons_append]
  gi_wp2_with (refine ⟨trivial, ?_⟩; gi_at_call 43; refine (callsIn_wide.2 (round_any _ G group)).mono ?_; rintro e w3 ⟨rfl, hR3, hs3, hB3⟩)
  have q0 := blk_new w (.cells #[.pointer (some ⟨b, off, none⟩)] 68)
  have q1 := blk_new (w.alloc (.cells #[.pointer (some ⟨b, off, none⟩)] 68)) (.cells #[.int .i64 0] 3)
  have q2 := blk_new ((w.alloc (.cells #[.pointer (some ⟨b, off, none⟩)] 68)).alloc (.cells #[.int .i64 0] 3)) (.cells #[.bool false] 4)
  simp only [World.size_alloc] at q1 q2 hs3 hB3 hR3
  have z0 : w3.heap[w.heap.size]? = some (.cells #[.pointer (some ⟨b, off, none⟩)] 68 (0, 0)) := by
    rw [hB3.block _ (by omega), Below.heap_alloc _ _ _ (by simp; omega), Below.heap_alloc _ _ _ (by simp)]; exact q0
  have z1 : w3.heap[w.heap.size + 1]? = some (.cells #[.int .i64 0] 3 (0, 0)) := by
    rw [hB3.block _ (by omega), Below.heap_alloc _ _ _ (by simp)]; exact q1
  have z2 : w3.heap[w.heap.size + 1 + 1]? = some (.cells #[.bool false] 4 (0, 0)) := by
    rw [hB3.block _ (by omega)]; exact q2
  have zs : w3.heap.size = w.heap.size + 5 := by omega
  have zb : Below w.heap.size w w3 := hB0.trans (hB3.mono (by omega))
  clear q0 q1 q2 hB3 hs3 hB0 hc0
  rw [← HG0.out] at hR3
  have HP3 := Hid.mk (h.below zb)
  have HT3 : Hid (Turned b off w w3) := Hid.mk (Turned.of_below zb hbw rfl)
  have hseq := round_stops 4 (by omega) (w.heap.size + 1 + 1 + 1) G g0 hf.g hg8 w3 (fun k => k = w.heap.size + 1 + 1 + 1 ∨ k = w.heap.size + 1 + 1 + 1 + 1) hR3 (.inl rfl) (.inr rfl)
  clear h zb hR3
  refine wpIn_rangeFunc_ownF rfl (by omega) (gf := 54) (lb := #[.pointer (some ⟨w.heap.size + 1 + 1 + 1, 0, none⟩), .pointer (some ⟨w.heap.size + 1 + 1 + 1 + 1, 0, none⟩)]) rfl trivial (enters_of Try.func54 (by kernel_rfl) rfl)
    hseq Bt.KpS_t (Bt.KpS_b (fun k hk => by rcases hk with rfl | rfl <;> omega)) (Below.refl _ _) (fun _ => rfl)
    (TI w b off G S L g0 t) (TX w b off G S L g0 t) (by rw [zs]; exact TI_own w b off G S L g0 t hbw) (by rw [zs]; exact TX_own w b off G S L g0 t hbw) ?start
    (fun x => { tmps := #[.pointer (some ⟨b, off, none⟩), .int .i64 group, .pointer (some ⟨w.heap.size, 0, none⟩), undef, .pointer (some ⟨w.heap.size + 1, 0, none⟩), .pointer (some ⟨w.heap.size + 1 + 1, 0, none⟩), .int .i64 (((g0 + x) % G : Nat) : Int), undef, undef, undef,
      .pointer (some ⟨b, off, none⟩), .pointer (some ⟨b, off, none⟩), .pointer (some ⟨b, off, none⟩), .int .i64 G, .int .i64 group, rdF (w.heap.size + 1 + 1 + 1), .int .i64 (((g0 + x) % G : Nat) : Int),
      undef, undef, undef, undef, undef, undef, undef, undef, undef, undef, undef, undef, undef, undef, undef, undef, undef, undef, undef, undef, undef, undef, undef, undef, undef, undef, undef], defers := [] }) ?assign ?body ?done ?stop
  case start => exact ⟨fun q hq => (by cases hq), z0, z1, z2, HP3.out, HT3.out, by omega⟩
  case assign =>
    intro l x W K hK
    dsimp only [rdV]
    gi_wp2
    exact hK
  case body =>
    rintro lp pre x W ⟨h0, h1, h2, h3, hP, hT, hsz⟩ hlen
    have hG : 0 < G := by omega
    obtain ⟨k, hk⟩ : ∃ k, k = (g0 + x) % G := ⟨_, rfl⟩
    have hkG : k < G := by rw [hk]; exact Nat.mod_lt _ hG
    have hL : 0 < L := by have h1 := hf.p hG; have h2 := hf.l; omega
    rw [← hk]
    obtain ⟨ao, l, c, xs, hc, hr⟩ := hP.rows k hkG
    have hf8 := hf.g
    have hk8 : k < 8 := by omega
    have hkt : ((k : Int)).toNat = k := by simp
    have hk0 : (0 : Int) ≤ (k : Int) := by omega
    have hk8' : (k : Int) < 8 := by omega
    obtain ⟨r, hr0⟩ : ∃ r, r = (List.range S).find? (fun i => !t (k * S + i)) := ⟨_, rfl⟩
    have hm := hf.m
    have hs1 := hf.s
    have HFIRST : Hid (∀ (W1 : World) (e : W1.heap = W.heap), Calls Try.prog 44 #[.slice ao l c, .int .i64 S, .int .i64 0] W1 fun e w' => e = .returned (fstV r) ∧ Below W1.heap.size W1 w') := Hid.mk (fun W1 e => by
      have hb : BAt W1 ao l xs := by rw [hr.len]; exact hr.bat.kept (fun a _ _ => by rw [e])
      have := Bt.first_any W1 ao l c xs hb hr.row.2.1 (by rw [hr.len]; omega) S 0 ⟨by omega, by omega⟩ ⟨by omega, by omega⟩
      rw [hr.row.fst hf.l, ← hr0] at this
      exact this)
    have HPB : Hid (∀ W1 : World, Below W.heap.size W W1 → PlAt W1 b off G S L t) := Hid.mk (fun W1 hB => hP.below hB)
    have HKP : Hid (∀ W1 : World, Below W.drew.heap.size W.drew W1 → P3 w b off S k ao l c W1) := Hid.mk (fun W1 hB => by
      have e0 : W1.heap[w.heap.size]? = W.heap[w.heap.size]? := hB.block _ (by show _ < W.heap.size; omega)
      have e1 : W1.heap[b]? = W.heap[b]? := hB.block _ hP.lt
      refine ⟨?_, ?_, ?_⟩
      · rw [World.cell?_of_block (w := W) e0, blk_cell h1]; rfl
      · rw [World.cell?_of_block (w := W) e1]; exact hP.c1
      · rw [World.cell?_of_block (w := W) e1]; exact hc)
    have HW := Hid.mk (And.intro h0 (And.intro h1 (And.intro h2 (And.intro h3 (And.intro hP (And.intro hT hsz))))))
    have HF := Hid.mk hf
    have HF2 := Hid.mk hf
    have HL := Hid.mk hL
    have HK := Hid.mk hk
    have HKG := Hid.mk hkG
    have HR0 := Hid.mk hr0
    clear h0 h1 h2 h3 hP hT hsz hf hk hkG hr0 hr hm hs1 hf8 hc hL z0 z1 z2 zs hseq HP3 HT3
    cases r with
    | none =>
      gi_wp2_with fail
      refine round_region_held (S := P3 w b off S k ao l c) (by kernel_rfl) (by kernel_rfl) (HKP.out _ (Below.refl _ _)) (fun hH => ?_)
      change wpAnyH Try.prog Region.Mode.any _ _ _ 16 _ _ _
      dsimp only [fstV] at HFIRST
      refine takeH 0 18 (.pointer (some ⟨b, off, none⟩)) rfl (by kernel_rfl) (by kernel_rfl) (by kernel_rfl) (by kernel_rfl) (fun _ _ _ h => h) (by kernel_rfl) (fun w hw => by (try dsimp only at hw); go_simp) hH ?_
      simp only [List.setIfInBounds_toArray, List.set_cons_zero, List.set_cons_succ]
      refine takeH 1 19 (.int .i64 k) rfl (by kernel_rfl) (by kernel_rfl) (by kernel_rfl) (by kernel_rfl) (fun _ _ _ h => h) (by kernel_rfl) (fun w hw => by kernel_rfl) hH ?_
      simp only [List.setIfInBounds_toArray, List.set_cons_zero, List.set_cons_succ]
      refine takeH 2 20 (.pointer (some ⟨b, off, none⟩)) rfl (by kernel_rfl) (by kernel_rfl) (by kernel_rfl) (by kernel_rfl) (fun _ _ _ h => h) (by kernel_rfl) (fun w hw => by (try dsimp only at hw); go_simp) hH ?_
      simp only [List.setIfInBounds_toArray, List.set_cons_zero, List.set_cons_succ]
      refine takeH 3 21 (.pointer (some ⟨b, off + 2, none⟩)) rfl (by kernel_rfl) (by kernel_rfl) (by kernel_rfl) (by kernel_rfl) (fun _ _ _ h => h) (by kernel_rfl) (fun w hw => by (try dsimp only at hw); go_simp) hH ?_
      simp only [List.setIfInBounds_toArray, List.set_cons_zero, List.set_cons_succ]
      refine takeH 4 22 (.pointer (some ⟨b, off + 2 + k, none⟩)) rfl (by kernel_rfl) (by kernel_rfl) (by kernel_rfl) (by kernel_rfl) (fun _ _ _ h => h) (by kernel_rfl) (fun w hw => by (try dsimp only at hw); go_simp) hH ?_
      simp only [List.setIfInBounds_toArray, List.set_cons_zero, List.set_cons_succ]
      refine takeH 5 23 (.slice ao l c) rfl (by kernel_rfl) (by kernel_rfl) (by kernel_rfl) (by kernel_rfl) (fun _ _ _ h => h) (by kernel_rfl) (fun w hw => by (try dsimp only at hw); go_simp) hH ?_
      simp only [List.setIfInBounds_toArray, List.set_cons_zero, List.set_cons_succ]
      refine takeH 6 24 (.pointer (some ⟨b, off, none⟩)) rfl (by kernel_rfl) (by kernel_rfl) (by kernel_rfl) (by kernel_rfl) (fun _ _ _ h => h) (by kernel_rfl) (fun w hw => by (try dsimp only at hw); go_simp) hH ?_
      simp only [List.setIfInBounds_toArray, List.set_cons_zero, List.set_cons_succ]
      refine takeH 7 25 (.pointer (some ⟨b, off, none⟩)) rfl (by kernel_rfl) (by kernel_rfl) (by kernel_rfl) (by kernel_rfl) (fun _ _ _ h => h) (by kernel_rfl) (fun w hw => by (try dsimp only at hw); go_simp) hH ?_
      simp only [List.setIfInBounds_toArray, List.set_cons_zero, List.set_cons_succ]
      refine takeH 8 26 (.pointer (some ⟨b, off + 1, none⟩)) rfl (by kernel_rfl) (by kernel_rfl) (by kernel_rfl) (by kernel_rfl) (fun _ _ _ h => h) (by kernel_rfl) (fun w hw => by (try dsimp only at hw); go_simp) hH ?_
      simp only [List.setIfInBounds_toArray, List.set_cons_zero, List.set_cons_succ]
      refine takeH 9 27 (.int .i64 S) rfl (by kernel_rfl) (by kernel_rfl) (by kernel_rfl) (by kernel_rfl) (fun _ _ _ h => h) (by kernel_rfl) (fun w hw => by (try dsimp only at hw); go_simp) hH ?_
      simp only [List.setIfInBounds_toArray, List.set_cons_zero, List.set_cons_succ]
      refine stepH_call 10 28 rfl (by kernel_rfl) (by kernel_rfl) (by kernel_rfl) 44 #[.tmp 23, .tmp 27, .const (.int .i64 0)] #[39, 3, 3] (by kernel_rfl) (enters_of Try.func44 (by kernel_rfl) rfl) #[.slice ao l c, .int .i64 S, .int .i64 0] (by kernel_rfl) (HFIRST.out _ rfl) ?_
      rintro e w5 ⟨rfl, hB5⟩
      have hH5 := HKP.out w5 hB5
      refine ⟨_, rfl, hH5, ?_⟩
      simp only [List.setIfInBounds_toArray, List.set_cons_zero, List.set_cons_succ]
      refine takeH 11 17 (.tuple #[.int .i64 0, .bool false]) rfl (by kernel_rfl) (by kernel_rfl) (by kernel_rfl) (by kernel_rfl) (fun _ _ _ h => h) (by kernel_rfl) (fun w hw => by kernel_rfl) hH5 ?_
      simp only [List.setIfInBounds_toArray, List.set_cons_zero, List.set_cons_succ]
      refine takeH 12 29 (.int .i64 0) rfl (by kernel_rfl) (by kernel_rfl) (by kernel_rfl) (by kernel_rfl) (fun _ _ _ h => h) (by kernel_rfl) (fun w hw => by (try dsimp only at hw); go_simp) hH5 ?_
      simp only [List.setIfInBounds_toArray, List.set_cons_zero, List.set_cons_succ]
      refine takeH 13 30 (.bool false) rfl (by kernel_rfl) (by kernel_rfl) (by kernel_rfl) (by kernel_rfl) (fun _ _ _ h => h) (by kernel_rfl) (fun w hw => by (try dsimp only at hw); go_simp) hH5 ?_
      simp only [List.setIfInBounds_toArray, List.set_cons_zero, List.set_cons_succ]
      refine takeH 14 7 (.int .i64 0) rfl (by kernel_rfl) (by kernel_rfl) (by kernel_rfl) (by kernel_rfl) (fun _ _ _ h => h) (by kernel_rfl) (fun w hw => by kernel_rfl) hH5 ?_
      simp only [List.setIfInBounds_toArray, List.set_cons_zero, List.set_cons_succ]
      refine takeH 15 8 (.bool false) rfl (by kernel_rfl) (by kernel_rfl) (by kernel_rfl) (by kernel_rfl) (fun _ _ _ h => h) (by kernel_rfl) (fun w hw => by kernel_rfl) hH5 ?_
      simp only [List.setIfInBounds_toArray, List.set_cons_zero, List.set_cons_succ]
      refine wpAnyH_done (by kernel_rfl) ?_ _
      dsimp only [Norm]
      gi_wp2
      obtain ⟨h0, h1, h2, h3, hP, hT, hsz⟩ := HW.out
      have hb5 : Below W.heap.size W w5 := ⟨hB5.os, hB5.tape, hB5.output, hB5.size, hB5.block⟩
      have hO5 : Only (fun _ => False) W w5 := Only.of_new _ hb5
      refine ⟨keeps_of_only hO5 (fun _ h => h.elim), fun j hj => hb5.block j (by rcases hj with rfl | rfl <;> omega), ?_, ?_, ?_, ?_, HPB.out _ hb5, hT.trans (Turned.of_below hb5 hP.lt rfl), by have := hb5.size; omega⟩
      · intro q hq
        rcases List.mem_append.1 hq with hq | hq
        · exact h0 q hq
        · rw [List.mem_singleton.1 hq, ← HK.out]
          intro i hi
          have := fstN_not HR0.out.symm i hi
          simpa using this
      · rw [boxP, hb5.block _ (by omega)]; exact h1
      · rw [hb5.block _ (by omega)]; exact h2
      · rw [hb5.block _ (by omega)]; exact h3
    | some i =>
      obtain ⟨hiS, hti, hbi⟩ := fstN_some HR0.out.symm
      have hf := HF.out
      obtain ⟨m, hm⟩ : ∃ m, m = k * S := ⟨_, rfl⟩
      obtain ⟨n, hn⟩ : ∃ n, n = m + i := ⟨_, rfl⟩
      have hmb : m ≤ 8 * 1000 := by rw [hm]; exact Nat.mul_le_mul (by omega) hf.s
      have hfs := hf.s
      have hw1 : IntKind.i64.wrap ((k : Int) * (S : Int)) = (m : Int) := by
        rw [show (k : Int) * (S : Int) = (m : Int) by rw [hm]; simp, IntKind.wrap_i64]; omega
      have hw2 : IntKind.i64.wrap ((m : Int) + (i : Int)) = (n : Int) := by rw [IntKind.wrap_i64, hn]; omega
      have hnG : n < G * S := by rw [hn, hm]; exact mul_lt_of HKG.out hiS
      have HNE : Hid (n = (g0 + x) % G * S + i) := Hid.mk (by rw [hn, hm, HK.out])
      have HSET : Hid (∀ W1 : World, Below W.drew.heap.size W.drew W1 → Calls Try.prog 45 #[.pointer (some ⟨b, off, none⟩), .int .i64 n, .bool true] W1 fun e w' => ∃ v, e = .returned v ∧ PlAt w' b off G S L (updT t n true) ∧ Turned b off W1 w') := Hid.mk (fun W1 hB => by
        refine (set_any W1 b off G S L t (HPB.out W1 ⟨hB.os, hB.tape, hB.output, hB.size, hB.block⟩) hf n hnG true).mono ?_
        rintro e w' ⟨⟨v, rfl⟩, h1, h2⟩
        exact ⟨v, rfl, h1, h2⟩)
      have HBX : Hid (∀ W1 W2 : World, Below W.drew.heap.size W.drew W1 → Turned b off W1 W2 → W2.heap[w.heap.size + 1]? = some (.cells #[.int .i64 0] 3 (0, 0)) ∧ W2.heap[w.heap.size + 1 + 1]? = some (.cells #[.bool false] 4 (0, 0))) := Hid.mk (fun W1 W2 hB hT => by
        obtain ⟨h0, h1, h2, h3, hP, hT0, hsz⟩ := HW.out
        have hs := hB.size
        have hsd : W.drew.heap.size = W.heap.size := rfl
        exact ⟨by rw [hT.only.block _ (by omega) (by omega), hB.block _ (by omega)]; exact h2, by rw [hT.only.block _ (by omega) (by omega), hB.block _ (by omega)]; exact h3⟩)
      have HI := Hid.mk (And.intro hiS (And.intro hti hbi))
      clear hiS hti hbi hf hm hn hmb hfs hnG HPB HF
      gi_wp2_with fail
      refine round_region_held (S := P3 w b off S k ao l c) (by kernel_rfl) (by kernel_rfl) (HKP.out _ (Below.refl _ _)) (fun hH => ?_)
      change wpAnyH Try.prog Region.Mode.any _ _ _ 16 _ _ _
      dsimp only [fstV] at HFIRST
      refine takeH 0 18 (.pointer (some ⟨b, off, none⟩)) rfl (by kernel_rfl) (by kernel_rfl) (by kernel_rfl) (by kernel_rfl) (fun _ _ _ h => h) (by kernel_rfl) (fun w hw => by (try dsimp only at hw); go_simp) hH ?_
      simp only [List.setIfInBounds_toArray, List.set_cons_zero, List.set_cons_succ]
      refine takeH 1 19 (.int .i64 k) rfl (by kernel_rfl) (by kernel_rfl) (by kernel_rfl) (by kernel_rfl) (fun _ _ _ h => h) (by kernel_rfl) (fun w hw => by kernel_rfl) hH ?_
      simp only [List.setIfInBounds_toArray, List.set_cons_zero, List.set_cons_succ]
      refine takeH 2 20 (.pointer (some ⟨b, off, none⟩)) rfl (by kernel_rfl) (by kernel_rfl) (by kernel_rfl) (by kernel_rfl) (fun _ _ _ h => h) (by kernel_rfl) (fun w hw => by (try dsimp only at hw); go_simp) hH ?_
      simp only [List.setIfInBounds_toArray, List.set_cons_zero, List.set_cons_succ]
      refine takeH 3 21 (.pointer (some ⟨b, off + 2, none⟩)) rfl (by kernel_rfl) (by kernel_rfl) (by kernel_rfl) (by kernel_rfl) (fun _ _ _ h => h) (by kernel_rfl) (fun w hw => by (try dsimp only at hw); go_simp) hH ?_
      simp only [List.setIfInBounds_toArray, List.set_cons_zero, List.set_cons_succ]
      refine takeH 4 22 (.pointer (some ⟨b, off + 2 + k, none⟩)) rfl (by kernel_rfl) (by kernel_rfl) (by kernel_rfl) (by kernel_rfl) (fun _ _ _ h => h) (by kernel_rfl) (fun w hw => by (try dsimp only at hw); go_simp) hH ?_
      simp only [List.setIfInBounds_toArray, List.set_cons_zero, List.set_cons_succ]
      refine takeH 5 23 (.slice ao l c) rfl (by kernel_rfl) (by kernel_rfl) (by kernel_rfl) (by kernel_rfl) (fun _ _ _ h => h) (by kernel_rfl) (fun w hw => by (try dsimp only at hw); go_simp) hH ?_
      simp only [List.setIfInBounds_toArray, List.set_cons_zero, List.set_cons_succ]
      refine takeH 6 24 (.pointer (some ⟨b, off, none⟩)) rfl (by kernel_rfl) (by kernel_rfl) (by kernel_rfl) (by kernel_rfl) (fun _ _ _ h => h) (by kernel_rfl) (fun w hw => by (try dsimp only at hw); go_simp) hH ?_
      simp only [List.setIfInBounds_toArray, List.set_cons_zero, List.set_cons_succ]
      refine takeH 7 25 (.pointer (some ⟨b, off, none⟩)) rfl (by kernel_rfl) (by kernel_rfl) (by kernel_rfl) (by kernel_rfl) (fun _ _ _ h => h) (by kernel_rfl) (fun w hw => by (try dsimp only at hw); go_simp) hH ?_
      simp only [List.setIfInBounds_toArray, List.set_cons_zero, List.set_cons_succ]
      refine takeH 8 26 (.pointer (some ⟨b, off + 1, none⟩)) rfl (by kernel_rfl) (by kernel_rfl) (by kernel_rfl) (by kernel_rfl) (fun _ _ _ h => h) (by kernel_rfl) (fun w hw => by (try dsimp only at hw); go_simp) hH ?_
      simp only [List.setIfInBounds_toArray, List.set_cons_zero, List.set_cons_succ]
      refine takeH 9 27 (.int .i64 S) rfl (by kernel_rfl) (by kernel_rfl) (by kernel_rfl) (by kernel_rfl) (fun _ _ _ h => h) (by kernel_rfl) (fun w hw => by (try dsimp only at hw); go_simp) hH ?_
      simp only [List.setIfInBounds_toArray, List.set_cons_zero, List.set_cons_succ]
      refine stepH_call 10 28 rfl (by kernel_rfl) (by kernel_rfl) (by kernel_rfl) 44 #[.tmp 23, .tmp 27, .const (.int .i64 0)] #[39, 3, 3] (by kernel_rfl) (enters_of Try.func44 (by kernel_rfl) rfl) #[.slice ao l c, .int .i64 S, .int .i64 0] (by kernel_rfl) (HFIRST.out _ rfl) ?_
      rintro e w5 ⟨rfl, hB5⟩
      have hH5 := HKP.out w5 hB5
      refine ⟨_, rfl, hH5, ?_⟩
      simp only [List.setIfInBounds_toArray, List.set_cons_zero, List.set_cons_succ]
      refine takeH 11 17 (.tuple #[.int .i64 i, .bool true]) rfl (by kernel_rfl) (by kernel_rfl) (by kernel_rfl) (by kernel_rfl) (fun _ _ _ h => h) (by kernel_rfl) (fun w hw => by kernel_rfl) hH5 ?_
      simp only [List.setIfInBounds_toArray, List.set_cons_zero, List.set_cons_succ]
      refine takeH 12 29 (.int .i64 i) rfl (by kernel_rfl) (by kernel_rfl) (by kernel_rfl) (by kernel_rfl) (fun _ _ _ h => h) (by kernel_rfl) (fun w hw => by (try dsimp only at hw); go_simp) hH5 ?_
      simp only [List.setIfInBounds_toArray, List.set_cons_zero, List.set_cons_succ]
      refine takeH 13 30 (.bool true) rfl (by kernel_rfl) (by kernel_rfl) (by kernel_rfl) (by kernel_rfl) (fun _ _ _ h => h) (by kernel_rfl) (fun w hw => by (try dsimp only at hw); go_simp) hH5 ?_
      simp only [List.setIfInBounds_toArray, List.set_cons_zero, List.set_cons_succ]
      refine takeH 14 7 (.int .i64 i) rfl (by kernel_rfl) (by kernel_rfl) (by kernel_rfl) (by kernel_rfl) (fun _ _ _ h => h) (by kernel_rfl) (fun w hw => by kernel_rfl) hH5 ?_
      simp only [List.setIfInBounds_toArray, List.set_cons_zero, List.set_cons_succ]
      refine takeH 15 8 (.bool true) rfl (by kernel_rfl) (by kernel_rfl) (by kernel_rfl) (by kernel_rfl) (fun _ _ _ h => h) (by kernel_rfl) (fun w hw => by kernel_rfl) hH5 ?_
      simp only [List.setIfInBounds_toArray, List.set_cons_zero, List.set_cons_succ]
      refine wpAnyH_done (by kernel_rfl) ?_ _
      dsimp only [Norm]
      obtain ⟨c0, c1, c2⟩ := hH5
      have HB5 := Hid.mk hB5
      clear hB5 hH c2
      gi_wp2_with (refine ⟨trivial, ?_⟩; gi_at_call 45; refine (callsIn_round (HSET.out _ HB5.out)).mono ?_; rintro e w6 ⟨v6, rfl, hP6, hT6⟩; obtain ⟨b1, b2⟩ := HBX.out _ _ HB5.out hT6; have d1 := blk_cell b1 0; have d2 := blk_free b1 0; have d3 := blk_cell b2 0; have d4 := blk_free b2 0; simp at d1 d3; have HP6 := Hid.mk hP6; have HT6 := Hid.mk hT6; have HB1 := Hid.mk b1; have HB2 := Hid.mk b2; clear hP6 hT6 b1 b2)
      obtain ⟨h0, h1, h2, h3, hP, hT, hsz⟩ := HW.out
      obtain ⟨hiS, hti, hbi⟩ := HI.out
      have hf := HF2.out
      have hb5 : Below W.heap.size W w5 := ⟨HB5.out.os, HB5.out.tape, HB5.out.output, HB5.out.size, HB5.out.block⟩
      have hbW := hP.lt
      have hT06 : Turned b off w w6 := (hT.trans (Turned.of_below hb5 hbW rfl)).trans HT6.out
      have hO6 : Only (fun j => j = b) W w6 := (Only.of_new _ hb5).trans HT6.out.only (fun _ e => .inl e)
      have hO7 : Only (fun j => j = b ∨ j = w.heap.size + 1 ∨ j = w.heap.size + 1 + 1) W ((w6.setCell ⟨w.heap.size + 1, 0, none⟩ (.int .i64 n)).setCell ⟨w.heap.size + 1 + 1, 0, none⟩ (.bool true)) :=
        ((hO6.mono (fun _ _ e => .inl e)).setCell (p := ⟨w.heap.size + 1, 0, none⟩) (.inl (.inr (.inl rfl))) _).setCell (p := ⟨w.heap.size + 1 + 1, 0, none⟩) (.inl (.inr (.inr rfl))) _
      have hL : 0 < L := HL.out
      have k1 : (w6.setCell ⟨w.heap.size + 1, 0, none⟩ (.int .i64 n)).heap[w.heap.size + 1 + 1]? = some (.cells #[.bool false] 4 (0, 0)) := by
        rw [Below.heap_setCell _ _ _ _ (by simp)]; exact HB2.out
      have hP7 : PlAt (w6.setCell ⟨w.heap.size + 1, 0, none⟩ (.int .i64 n)) b off G S L (updT t n true) := HP6.out.setNew (p := ⟨w.heap.size + 1, 0, none⟩) (by show w.heap.size + 1 ≠ b; omega) (fun k' ao' l' c' xs' hr a ea => hr.not_at HB1.out (fun _ => by simp) hL a ea) _
      have hP8 := hP7.setNew (p := ⟨w.heap.size + 1 + 1, 0, none⟩) (by show w.heap.size + 1 + 1 ≠ b; omega) (fun k' ao' l' c' xs' hr a ea => hr.not_at k1 (fun _ => by simp) hL a ea) (.bool true)
      refine ⟨keeps_of_only hO7 (fun j e => ?_), rfl, pre, x, i, rfl, h0, hiS, ?_, ?_, ?_, ?_, ?_, ?_, ?_⟩
      · rcases e with rfl | rfl | rfl
        · obtain ⟨cs, T, e, _⟩ := hP.blk; exact ⟨_, _, _, e⟩
        · exact ⟨_, _, _, h2⟩
        · exact ⟨_, _, _, h3⟩
      · intro j hj
        have := hbi j hj
        rw [← HK.out]
        simpa using this
      · rw [← HK.out]
        simpa using hti
      · rw [Below.heap_setCell _ _ _ _ (by simp), blk_set HB1.out, ← HNE.out]
        simp
      · rw [blk_set k1]
        simp
      · rw [← HNE.out]; exact hP8
      · exact (hT06.setNew hbw (p := ⟨w.heap.size + 1, 0, none⟩) (by show w.heap.size ≤ w.heap.size + 1; omega) _).setNew hbw (p := ⟨w.heap.size + 1 + 1, 0, none⟩) (by show w.heap.size ≤ w.heap.size + 1 + 1; omega) _
      · have := hO7.size; omega
  case done =>
    rintro D ys W hD rfl ⟨h0, h1, h2, h3, hP, hT, hsz⟩ hK
    have HN : Hid (nextN t (G * S) (g0 * S) = none) := Hid.mk (next_of_all (fun p i hp hi => h0 p (List.mem_range.2 hp) i hi))
    have hcell := blk_cell h2 0
    have hfree := blk_free h2 0
    have hcell2 := blk_cell h3 0
    have hfree2 := blk_free h3 0
    simp at hcell hcell2
    have HW := Hid.mk (And.intro h2 (And.intro h3 (And.intro hP (And.intro hT hsz))))
    have HD : Hid (w.heap.size + 5 ≤ D) := Hid.mk (by omega)
    clear h0 h1 h2 h3 hP hT hsz hf
    gi_wp2
    obtain ⟨h2, h3, hP, hT, hsz⟩ := HW.out
    rw [set_back h2, set_back h3]
    have hnc : ∀ r, some D = some r → ∃ o : Obj, W.heap[r]? = some o ∧ o.isCells = false := fun r e => by cases e; exact ⟨_, hK, rfl⟩
    have m1 : W.cell? ⟨w.heap.size + 1, 0, none⟩ = some (.int .i64 0) := by rw [blk_cell h2]; rfl
    have m2 : W.cell? ⟨w.heap.size + 1 + 1, 0, none⟩ = some (.bool false) := by rw [blk_cell h3]; rfl
    have c1 := cell_kept m1 (grownBy_putObj' _ D (.deferred none)) hnc
    have c2 := cell_kept m2 (grownBy_putObj' _ D (.deferred none)) hnc
    refine ⟨by simp, .inl ⟨_, _, rfl, run_takeDeferred hK, ?_⟩⟩
    refine ⟨.tuple #[.int .i64 0, .bool false], ?_, ?_, ?_, ?_⟩
    · simp [results, Try.f29, go_sem, c1, c2]
    · rw [HN.out]; rfl
    · rw [HN.out]; exact hP.grown (grownBy_putObj' _ D (.deferred none)) hnc
    · exact hT.grown hbw (grownBy_putObj' _ D (.deferred none)) (fun r e => by cases e; have := HD.out; omega)
  case stop =>
    rintro D c pre W hD ⟨k, hk, hpre⟩ ⟨rfl, p, x, i, hp, h0, hiS, hbi, hti, h1, h2, hP, hT, hsz⟩ hK
    rw [hpre, ← range_snoc] at hp
    obtain ⟨hp1, hp2⟩ := List.append_inj' hp rfl
    have hx : k = x := by simpa using hp2
    subst hx
    have HN : Hid (nextN t (G * S) (g0 * S) = some ((g0 + k) % G * S + i)) := Hid.mk (next_of_at hk (fun p' j hp' hj => h0 p' (by rw [← hp1]; exact List.mem_range.2 hp') j hj) hiS hbi hti)
    obtain ⟨n, hn⟩ : ∃ n, n = (g0 + k) % G * S + i := ⟨_, rfl⟩
    rw [← hn] at HN h1 hP
    have HW := Hid.mk (And.intro h1 (And.intro h2 (And.intro hP (And.intro hT hsz))))
    have HD : Hid (w.heap.size + 5 ≤ D) := Hid.mk (by omega)
    clear h0 hiS hbi hti h1 h2 hP hT hsz hf hp hp1 hp2 hpre hk hn
    gi_wp2
    obtain ⟨h2, h3, hP, hT, hsz⟩ := HW.out
    have hnc : ∀ r, some D = some r → ∃ o : Obj, W.heap[r]? = some o ∧ o.isCells = false := fun r e => by cases e; exact ⟨_, hK, rfl⟩
    have m1 : W.cell? ⟨w.heap.size + 1, 0, none⟩ = some (.int .i64 n) := by rw [blk_cell h2]; rfl
    have m2 : W.cell? ⟨w.heap.size + 1 + 1, 0, none⟩ = some (.bool true) := by rw [blk_cell h3]; rfl
    have c1 := cell_kept m1 (grownBy_putObj' _ D (.deferred none)) hnc
    have c2 := cell_kept m2 (grownBy_putObj' _ D (.deferred none)) hnc
    refine ⟨by simp, .inl ⟨_, _, rfl, run_takeDeferred hK, ?_⟩⟩
    refine ⟨.tuple #[.int .i64 n, .bool true], ?_, ?_, ?_, ?_⟩
    · simp [results, Try.f29, go_sem, c1, c2]
    · rw [HN.out]; rfl
    · rw [HN.out]; exact hP.grown (grownBy_putObj' _ D (.deferred none)) hnc
    · exact hT.grown hbw (grownBy_putObj' _ D (.deferred none)) (fun r e => by cases e; have := HD.out; omega)
end Go.Proofs.Ytjhfkcngaknbdaa
