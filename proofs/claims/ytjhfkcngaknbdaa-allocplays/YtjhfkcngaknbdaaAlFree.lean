/-
  How many things of a pool are free.
-/
import Derived.Test.YtjhfkcngaknbdaaAlNewPool
namespace Go.Proofs.Ytjhfkcngaknbdaa
open Go Go.Proofs Go.RowKit Go.Shelf
attribute [local go_sem] Oper.semAt_some

theorem exec_loadI {ev : Operand → Value} {oi : Oper} {x : Operand} {a : Addr} {v : Value} {W : World} (ho : oi.op = .load 3 x) (hx : ev x = .pointer (some a)) (hc : W.cell? a = some v) : (execOp ev oi).run Try.prog W = .ok (.value v) W := by
  unfold execOp
  rw [ho]
  simp [go_sem, hx, hc]
theorem exec_storeI {ev : Operand → Value} {oi : Oper} {p x : Operand} {a : Addr} {n : Int} {v : Value} {W : World} (ho : oi.op = .store 3 p x) (hp : ev p = .pointer (some a)) (hx : ev x = .int .i64 n) (hc : W.cell? a = some v) (hf : W.frozen? a = false) : (execOp ev oi).run Try.prog W = .ok .skip (W.setCell a (.int .i64 n)) := by
  refine exec_store ho hp hx ?_
  simp [go_sem, hc, hf]
/-- How many of these groups' things are free. -/
def sumF (t : Nat → Bool) (G S : Nat) (pre : List Nat) : Nat := (pre.map (fun x => (List.range S).countP (fun i => !t ((0 + x) % G * S + i)))).sum
theorem sumF_le (t : Nat → Bool) (G S : Nat) (pre : List Nat) : sumF t G S pre ≤ pre.length * S := by
  unfold sumF
  induction pre with
  | nil => simp
  | cons x l ih =>
    have h : (List.range S).countP (fun i => !t ((0 + x) % G * S + i)) ≤ (List.range S).length := List.countP_le_length
    rw [List.length_range] at h
    simp only [List.map_cons, List.sum_cons, List.length_cons, Nat.add_mul]
    omega
theorem sumF_snoc (t : Nat → Bool) (G S : Nat) (pre : List Nat) (x : Nat) : sumF t G S (pre ++ [x]) = sumF t G S pre + (List.range S).countP (fun i => !t ((0 + x) % G * S + i)) := by
  unfold sumF
  simp
theorem sumF_all (t : Nat → Bool) (G S : Nat) : sumF t G S (List.range G) = freeN t (G * S) := by
  have h : ∀ q, q ≤ G → sumF t G S (List.range q) = freeG t S q := by
    intro q
    induction q with
    | zero => intro _; simp [sumF, freeG, freeN]
    | succ q ih =>
      intro hq
      rw [List.range_succ, sumF_snoc, ih (by omega)]
      have h1 := freeG_step t S q
      have h2 := countP_neg (fun i => t (q * S + i)) (List.range S)
      rw [List.length_range] at h2
      rw [Nat.zero_add, Nat.mod_eq_of_lt (by omega)]
      omega
  exact h G (Nat.le_refl _)
/-- Between two rounds. -/
def FrI (w : World) (b off G S L : Nat) (t : Nat → Bool) (pre : List Nat) (W : World) : Prop :=
  boxP w b off W ∧ W.heap[w.heap.size + 1]? = some (.cells #[.int .i64 ((sumF t G S pre : Nat) : Int)] 3 (0, 0)) ∧ PlAt W b off G S L t ∧ Below w.heap.size w W ∧ w.heap.size + 4 ≤ W.heap.size
theorem FrI_own (w : World) (b off G S L : Nat) (t : Nat → Bool) : OwnFrom (w.heap.size + 4) (FrI w b off G S L t) := by
  intro pre W W' row h hg hr
  obtain ⟨h1, h2, h4, h5, h6⟩ := h
  have hc := fun r e => (hr r e).2
  exact ⟨Bt.keep_cells h1 hg hc, Bt.keep_cells h2 hg hc, h4.grown hg hc, h5.grown hg h5.size (fun k e => by have := (hr k e).1; omega), Nat.le_trans h6 hg.size⟩
set_option maxRecDepth 100000 in
set_option maxHeartbeats 4000000 in
theorem free_any2 (w : World) (b off G S L : Nat) (t : Nat → Bool) (h : PlAt w b off G S L t) (hf : Fit G S L) :
    Calls Try.prog 33 #[.pointer (some ⟨b, off, none⟩)] w fun e w' => e = .returned (.int .i64 ((freeN t (G * S) : Nat) : Int)) ∧ Below w.heap.size w w' := by
  have hbw := h.lt
  have hB0 : Below w.heap.size w ((w.alloc (.cells #[.pointer (some ⟨b, off, none⟩)] 68)).alloc (.cells #[.int .i64 0] 3)) := ((Below.refl _ w).alloc (Nat.le_refl _) _).alloc (by simp) _
  have hc0 : ((w.alloc (.cells #[.pointer (some ⟨b, off, none⟩)] 68)).alloc (.cells #[.int .i64 0] 3)).cell? ⟨b, off, none⟩ = some (.int .i64 G) := (h.below hB0).c0
  refine (callsIn_wide (n := 5)).1 ?_
  refine callsIn_of_wp_marks Try.func33 rfl trivial ?_ rfl
  simp only [Try.ntmps33, List.size_toArray, List.length_cons, List.length_nil, Nat.reduceAdd, Nat.reduceSub, Array.replicate_succ, Array.replicate_zero, List.push_toArray, List.append_toArray, List.nil_append, List.cons_append]
  gi_wp2_with (refine ⟨trivial, ?_⟩; gi_at_call 43; refine (callsIn_wide.2 (round_any _ G 0)).mono ?_; rintro e w3 ⟨rfl, hR3, hs3, hB3⟩)
  have q0 := blk_new w (.cells #[.pointer (some ⟨b, off, none⟩)] 68)
  have q1 := blk_new (w.alloc (.cells #[.pointer (some ⟨b, off, none⟩)] 68)) (.cells #[.int .i64 0] 3)
  simp only [World.size_alloc] at q1 hs3 hB3 hR3
  have z0 : w3.heap[w.heap.size]? = some (.cells #[.pointer (some ⟨b, off, none⟩)] 68 (0, 0)) := by
    rw [hB3.block _ (by omega), Below.heap_alloc _ _ _ (by simp)]; exact q0
  have z1 : w3.heap[w.heap.size + 1]? = some (.cells #[.int .i64 0] 3 (0, 0)) := by
    rw [hB3.block _ (by omega)]; exact q1
  have zs : w3.heap.size = w.heap.size + 4 := by omega
  have zb : Below w.heap.size w w3 := hB0.trans (hB3.mono (by omega))
  clear q0 q1 hB3 hs3 hB0 hc0
  have hg0 : grpOf G 0 = 0 := by unfold grpOf; split <;> rfl
  rw [hg0] at hR3
  have HP3 := Hid.mk (h.below zb)
  have hseq := round_stops 4 (by omega) (w.heap.size + 1 + 1) G 0 hf.g (by omega) w3 (fun k => k = w.heap.size + 1 + 1 ∨ k = w.heap.size + 1 + 1 + 1) hR3 (.inl rfl) (.inr rfl)
  clear hR3 hg0 h
  refine wpIn_rangeFunc_ownF rfl (by omega) (gf := 54) (lb := #[.pointer (some ⟨w.heap.size + 1 + 1, 0, none⟩), .pointer (some ⟨w.heap.size + 1 + 1 + 1, 0, none⟩)]) rfl trivial (enters_of Try.func54 (by kernel_rfl) rfl)
    hseq Bt.KpS_t (Bt.KpS_b (fun k hk => by rcases hk with rfl | rfl <;> omega)) (Below.refl _ _) (fun _ => rfl)
    (FrI w b off G S L t) (fun _ _ _ => False) (by rw [zs]; exact FrI_own w b off G S L t) (fun _ => never_own _) ?start
    (fun x => { tmps := #[.pointer (some ⟨b, off, none⟩), .pointer (some ⟨w.heap.size, 0, none⟩), .int .i64 0, .pointer (some ⟨w.heap.size + 1, 0, none⟩), .int .i64 (((0 + x) % G : Nat) : Int), .pointer (some ⟨b, off, none⟩), .pointer (some ⟨b, off, none⟩), .pointer (some ⟨b, off, none⟩), .int .i64 G, rdF (w.heap.size + 1 + 1), .int .i64 (((0 + x) % G : Nat) : Int),
      undef, undef, undef, undef, undef, undef, undef, undef, undef, undef, undef, undef, undef, undef, undef, undef, undef, undef, undef], defers := [] }) ?assign ?body ?done ?stop
  case start => exact ⟨z0, z1, HP3.out, zb, by omega⟩
  case assign =>
    intro l x W K hK
    dsimp only [rdV]
    generalize (((0 + x) % G : Nat) : Int) = r at hK ⊢
    gi_wp2
    exact hK
  case body =>
    rintro lp pre x W ⟨h1, h2, hP, hB, hsz⟩ hlen
    have hG : 0 < G := by omega
    obtain ⟨k, hk⟩ : ∃ k, k = (0 + x) % G := ⟨_, rfl⟩
    have hkG : k < G := by rw [hk]; exact Nat.mod_lt _ hG
    rw [← hk]
    obtain ⟨ao, l, c, xs, hc, hr⟩ := hP.rows k hkG
    have hf8 := hf.g
    have hk8 : k < 8 := by omega
    have hkt : ((k : Int)).toNat = k := by simp
    have hk0 : (0 : Int) ≤ (k : Int) := by omega
    have hk8' : (k : Int) < 8 := by omega
    have hm := hf.m
    have hs1 := hf.s
    have hL : 0 < L := by have h1 := hf.p hG; have h2 := hf.l; omega
    obtain ⟨s, hs⟩ : ∃ s, s = sumF t G S pre := ⟨_, rfl⟩
    obtain ⟨s2, hs2⟩ : ∃ s2, s2 = sumF t G S (pre ++ [x]) := ⟨_, rfl⟩
    obtain ⟨cn, hcn⟩ : ∃ cn, cn = (List.range S).countP (fun i => t (k * S + i)) := ⟨_, rfl⟩
    obtain ⟨d, hd⟩ : ∃ d : Int, d = (S : Int) - (cn : Int) := ⟨_, rfl⟩
    have hsn := countP_neg (fun i => t (k * S + i)) (List.range S)
    rw [List.length_range, ← hcn] at hsn
    have hs12 := sumF_snoc t G S pre x
    rw [← hk, ← hs2, ← hs] at hs12
    have hsl : s2 ≤ 8 * 1000 := by
      have := sumF_le t G S (pre ++ [x])
      rw [← hs2] at this
      have h3 : (pre ++ [x]).length * S ≤ 8 * 1000 := Nat.mul_le_mul (by simp; omega) hs1
      omega
    have hw1 : IntKind.i64.wrap ((S : Int) - (cn : Int)) = d := by rw [IntKind.wrap_i64, hd]; omega
    have hw2 : IntKind.i64.wrap ((s : Int) + d) = (s2 : Int) := by rw [IntKind.wrap_i64, hd]; omega
    have HCNT : Hid (∀ (W1 : World) (e : W1.heap = W.heap), Calls Try.prog 50 #[.slice ao l c, .int .i64 S] W1 fun e w' => e = .returned (.int .i64 (cn : Nat)) ∧ Below W1.heap.size W1 w') := Hid.mk (fun W1 e => by
      have hb : BAt W1 ao l xs := by rw [hr.len]; exact hr.bat.kept (fun a _ _ => by rw [e])
      have := Bt.count_any W1 ao l c xs hb hr.row.2.1 (by rw [hr.len]; omega) S ⟨by omega, by omega⟩
      rw [hr.row.cnt hf.l, ← hcn] at this
      exact this)
    have HKP : Hid (∀ W1 : World, Below W.drew.heap.size W.drew W1 → P3 w b off S k ao l c W1) := Hid.mk (fun W1 hB => by
      have e0 : W1.heap[w.heap.size]? = W.heap[w.heap.size]? := hB.block _ (by show _ < W.heap.size; omega)
      have e1 : W1.heap[b]? = W.heap[b]? := hB.block _ hP.lt
      refine ⟨?_, ?_, ?_⟩
      · rw [World.cell?_of_block (w := W) e0, blk_cell h1]; rfl
      · rw [World.cell?_of_block (w := W) e1]; exact hP.c1
      · rw [World.cell?_of_block (w := W) e1]; exact hc)
    have HBX : Hid (∀ W1 : World, Below W.drew.heap.size W.drew W1 → W1.cell? ⟨w.heap.size + 1, 0, none⟩ = some (.int .i64 (s : Nat)) ∧ W1.frozen? ⟨w.heap.size + 1, 0, none⟩ = false) := Hid.mk (fun W1 hB => by
      have e0 : W1.heap[w.heap.size + 1]? = some (.cells #[.int .i64 (s : Nat)] 3 (0, 0)) := by
        rw [hB.block _ (by show _ < W.heap.size; omega), hs]; exact h2
      exact ⟨by rw [blk_cell e0]; rfl, blk_free e0 0⟩)
    have HST : Hid (∀ W1 : World, P3 w b off S k ao l c W1 → P3 w b off S k ao l c (W1.setCell ⟨w.heap.size + 1, 0, none⟩ (.int .i64 (s2 : Nat)))) := Hid.mk (fun W1 hp => by
      obtain ⟨p1, p2, p3⟩ := hp
      refine ⟨?_, ?_, ?_⟩
      · exact (World.cell?_setCell_other W1 ⟨w.heap.size + 1, 0, none⟩ ⟨w.heap.size, 0, none⟩ _ (by simp)).trans p1
      · exact (World.cell?_setCell_other W1 ⟨w.heap.size + 1, 0, none⟩ ⟨b, off + 1, none⟩ _ (by simp; try omega)).trans p2
      · exact (World.cell?_setCell_other W1 ⟨w.heap.size + 1, 0, none⟩ ⟨b, off + 2 + k, none⟩ _ (by simp; try omega)).trans p3)
    have HFI : Hid (∀ W1 : World, Below W.drew.heap.size W.drew W1 → KeepsOthers W (W1.setCell ⟨w.heap.size + 1, 0, none⟩ (.int .i64 (s2 : Nat))) ∧ Bt.KpS (fun k => k = w.heap.size + 1 + 1 ∨ k = w.heap.size + 1 + 1 + 1) W (W1.setCell ⟨w.heap.size + 1, 0, none⟩ (.int .i64 (s2 : Nat))) ∧ FrI w b off G S L t (pre ++ [x]) (W1.setCell ⟨w.heap.size + 1, 0, none⟩ (.int .i64 (s2 : Nat)))) := Hid.mk (fun W1 hB1 => by
      have hb5 : Below W.heap.size W W1 := ⟨hB1.os, hB1.tape, hB1.output, hB1.size, hB1.block⟩
      have hO : Only (fun j => j = w.heap.size + 1) W (W1.setCell ⟨w.heap.size + 1, 0, none⟩ (.int .i64 (s2 : Nat))) := (Only.of_new (fun j => j = w.heap.size + 1) hb5).setCell (p := ⟨w.heap.size + 1, 0, none⟩) (.inl rfl) _
      have e1 : W1.heap[w.heap.size + 1]? = some (.cells #[.int .i64 ((sumF t G S pre : Nat) : Int)] 3 (0, 0)) := by rw [hb5.block _ (by omega)]; exact h2
      refine ⟨keeps_of_only hO (fun j e => by subst e; exact ⟨_, _, _, h2⟩), fun j hj => hO.block j (by rcases hj with rfl | rfl <;> omega) (by rcases hj with rfl | rfl <;> omega), ?_, ?_, ?_, ?_, ?_⟩
      · rw [boxP, hO.block _ (by omega) (by omega)]; exact h1
      · rw [blk_set e1, hs2]; simp
      · exact (hP.below hb5).setNew (p := ⟨w.heap.size + 1, 0, none⟩) (by show w.heap.size + 1 ≠ b; omega) (fun k' ao' l' c' xs' hr a ea => hr.not_at e1 (fun _ => by simp) hL a ea) _
      · exact hB.trans (hO.below (by omega) (fun k e => by omega))
      · have := hO.size; omega)
    clear h1 h2 hP hB hsz hf hkG hr hm hs1 hf8 hc z0 z1 zs hseq HP3 hk hs hs2 hs12 hsl hsn hcn hd hL hlen
    gi_wp2_with fail
    refine round_region_held (S := P3 w b off S k ao l c) (by kernel_rfl) (by kernel_rfl) (HKP.out _ (Below.refl _ _)) (fun hH => ?_)
    change wpAnyH Try.prog Region.Mode.any _ _ _ 19 _ _ _
    refine takeH 1 12 (.pointer (some ⟨b, off, none⟩)) rfl (by kernel_rfl) (by kernel_rfl) (by kernel_rfl) (by kernel_rfl) (fun _ _ _ h => h) (by kernel_rfl) (fun w hw => by (try dsimp only at hw); go_simp) hH ?_
    simp only [List.setIfInBounds_toArray, List.set_cons_zero, List.set_cons_succ]
    refine takeH 2 13 (.pointer (some ⟨b, off, none⟩)) rfl (by kernel_rfl) (by kernel_rfl) (by kernel_rfl) (by kernel_rfl) (fun _ _ _ h => h) (by kernel_rfl) (fun w hw => by (try dsimp only at hw); go_simp) hH ?_
    simp only [List.setIfInBounds_toArray, List.set_cons_zero, List.set_cons_succ]
    refine takeH 3 14 (.pointer (some ⟨b, off + 1, none⟩)) rfl (by kernel_rfl) (by kernel_rfl) (by kernel_rfl) (by kernel_rfl) (fun _ _ _ h => h) (by kernel_rfl) (fun w hw => by (try dsimp only at hw); go_simp) hH ?_
    simp only [List.setIfInBounds_toArray, List.set_cons_zero, List.set_cons_succ]
    refine takeH 4 15 (.int .i64 S) rfl (by kernel_rfl) (by kernel_rfl) (by kernel_rfl) (by kernel_rfl) (fun _ _ _ h => h) (by kernel_rfl) (fun w hw => by (try dsimp only at hw); go_simp) hH ?_
    simp only [List.setIfInBounds_toArray, List.set_cons_zero, List.set_cons_succ]
    refine takeH 5 16 (.pointer (some ⟨b, off, none⟩)) rfl (by kernel_rfl) (by kernel_rfl) (by kernel_rfl) (by kernel_rfl) (fun _ _ _ h => h) (by kernel_rfl) (fun w hw => by (try dsimp only at hw); go_simp) hH ?_
    simp only [List.setIfInBounds_toArray, List.set_cons_zero, List.set_cons_succ]
    refine takeH 6 17 (.int .i64 k) rfl (by kernel_rfl) (by kernel_rfl) (by kernel_rfl) (by kernel_rfl) (fun _ _ _ h => h) (by kernel_rfl) (fun w hw => by kernel_rfl) hH ?_
    simp only [List.setIfInBounds_toArray, List.set_cons_zero, List.set_cons_succ]
    refine takeH 7 18 (.pointer (some ⟨b, off, none⟩)) rfl (by kernel_rfl) (by kernel_rfl) (by kernel_rfl) (by kernel_rfl) (fun _ _ _ h => h) (by kernel_rfl) (fun w hw => by (try dsimp only at hw); go_simp) hH ?_
    simp only [List.setIfInBounds_toArray, List.set_cons_zero, List.set_cons_succ]
    refine takeH 8 19 (.pointer (some ⟨b, off + 2, none⟩)) rfl (by kernel_rfl) (by kernel_rfl) (by kernel_rfl) (by kernel_rfl) (fun _ _ _ h => h) (by kernel_rfl) (fun w hw => by (try dsimp only at hw); go_simp) hH ?_
    simp only [List.setIfInBounds_toArray, List.set_cons_zero, List.set_cons_succ]
    refine takeH 9 20 (.pointer (some ⟨b, off + 2 + k, none⟩)) rfl (by kernel_rfl) (by kernel_rfl) (by kernel_rfl) (by kernel_rfl) (fun _ _ _ h => h) (by kernel_rfl) (fun w hw => by (try dsimp only at hw); go_simp) hH ?_
    simp only [List.setIfInBounds_toArray, List.set_cons_zero, List.set_cons_succ]
    refine takeH 10 21 (.slice ao l c) rfl (by kernel_rfl) (by kernel_rfl) (by kernel_rfl) (by kernel_rfl) (fun _ _ _ h => h) (by kernel_rfl) (fun w hw => by (try dsimp only at hw); go_simp) hH ?_
    simp only [List.setIfInBounds_toArray, List.set_cons_zero, List.set_cons_succ]
    refine takeH 11 22 (.pointer (some ⟨b, off, none⟩)) rfl (by kernel_rfl) (by kernel_rfl) (by kernel_rfl) (by kernel_rfl) (fun _ _ _ h => h) (by kernel_rfl) (fun w hw => by (try dsimp only at hw); go_simp) hH ?_
    simp only [List.setIfInBounds_toArray, List.set_cons_zero, List.set_cons_succ]
    refine takeH 12 23 (.pointer (some ⟨b, off, none⟩)) rfl (by kernel_rfl) (by kernel_rfl) (by kernel_rfl) (by kernel_rfl) (fun _ _ _ h => h) (by kernel_rfl) (fun w hw => by (try dsimp only at hw); go_simp) hH ?_
    simp only [List.setIfInBounds_toArray, List.set_cons_zero, List.set_cons_succ]
    refine takeH 13 24 (.pointer (some ⟨b, off + 1, none⟩)) rfl (by kernel_rfl) (by kernel_rfl) (by kernel_rfl) (by kernel_rfl) (fun _ _ _ h => h) (by kernel_rfl) (fun w hw => by (try dsimp only at hw); go_simp) hH ?_
    simp only [List.setIfInBounds_toArray, List.set_cons_zero, List.set_cons_succ]
    refine takeH 14 25 (.int .i64 S) rfl (by kernel_rfl) (by kernel_rfl) (by kernel_rfl) (by kernel_rfl) (fun _ _ _ h => h) (by kernel_rfl) (fun w hw => by (try dsimp only at hw); go_simp) hH ?_
    simp only [List.setIfInBounds_toArray, List.set_cons_zero, List.set_cons_succ]
    refine stepH_two 0 15 (by kernel_rfl) ?_ ?_
    · refine opH_run 0 11 (.int .i64 (s : Nat)) W.drew rfl (by kernel_rfl) (by kernel_rfl) (exec_loadI (x := .tmp 3) (a := ⟨w.heap.size + 1, 0, none⟩) (v := .int .i64 (s : Nat)) rfl (by kernel_rfl) (HBX.out _ (Below.refl _ _)).1) hH ?_
      simp only [List.setIfInBounds_toArray, List.set_cons_zero, List.set_cons_succ]
      refine stepH_call 15 26 rfl (by kernel_rfl) (by kernel_rfl) (by kernel_rfl) 50 #[.tmp 21, .tmp 25] #[39, 3] (by kernel_rfl) (enters_of Try.func50 (by kernel_rfl) rfl) #[.slice ao l c, .int .i64 S] (by kernel_rfl) (HCNT.out _ rfl) ?_
      rintro e w5 ⟨rfl, hB5⟩
      have hH5 := HKP.out w5 hB5
      refine ⟨_, rfl, hH5, ?_⟩
      simp only [List.setIfInBounds_toArray, List.set_cons_zero, List.set_cons_succ]
      refine takeH 16 27 (.int .i64 (d : Int)) rfl (by kernel_rfl) (by kernel_rfl) (by kernel_rfl) (by kernel_rfl) (fun _ _ _ h => h) (by kernel_rfl) (fun w hw => by (try dsimp only at hw); go_simp) hH5 ?_
      simp only [List.setIfInBounds_toArray, List.set_cons_zero, List.set_cons_succ]
      refine takeH 17 28 (.int .i64 (s2 : Nat)) rfl (by kernel_rfl) (by kernel_rfl) (by kernel_rfl) (by kernel_rfl) (fun _ _ _ h => h) (by kernel_rfl) (fun w hw => by (try dsimp only at hw); go_simp) hH5 ?_
      simp only [List.setIfInBounds_toArray, List.set_cons_zero, List.set_cons_succ]
      refine stepH_one 18 (by kernel_rfl) ?_
      refine opH_store 18 (w5.setCell ⟨w.heap.size + 1, 0, none⟩ (.int .i64 (s2 : Nat))) rfl (by kernel_rfl) (by kernel_rfl) (exec_storeI (p := .tmp 3) (x := .tmp 28) (by kernel_rfl) (by kernel_rfl) (by kernel_rfl) (HBX.out _ hB5).1 (HBX.out _ hB5).2) (HST.out _ hH5) ?_
      refine wpAnyH_done (by kernel_rfl) ?_ _
      exact HFI.out w5 hB5
    · refine opH_call 15 26 rfl (by kernel_rfl) (by kernel_rfl) 50 #[.tmp 21, .tmp 25] #[39, 3] (by kernel_rfl) (enters_of Try.func50 (by kernel_rfl) rfl) #[.slice ao l c, .int .i64 S] (by kernel_rfl) (HCNT.out _ rfl) ?_
      rintro e w5 ⟨rfl, hB5⟩
      have hH5 := HKP.out w5 hB5
      refine ⟨_, rfl, hH5, ?_⟩
      simp only [List.setIfInBounds_toArray, List.set_cons_zero, List.set_cons_succ]
      refine takeH 16 27 (.int .i64 (d : Int)) rfl (by kernel_rfl) (by kernel_rfl) (by kernel_rfl) (by kernel_rfl) (fun _ _ _ h => h) (by kernel_rfl) (fun w hw => by (try dsimp only at hw); go_simp) hH5 ?_
      simp only [List.setIfInBounds_toArray, List.set_cons_zero, List.set_cons_succ]
      refine stepH 0 11 (.int .i64 (s : Nat)) rfl (by kernel_rfl) (by kernel_rfl) (by kernel_rfl) (exec_loadI (x := .tmp 3) (a := ⟨w.heap.size + 1, 0, none⟩) (v := .int .i64 (s : Nat)) rfl (by kernel_rfl) (HBX.out _ hB5).1) hH5 ?_
      simp only [List.setIfInBounds_toArray, List.set_cons_zero, List.set_cons_succ]
      refine takeH 17 28 (.int .i64 (s2 : Nat)) rfl (by kernel_rfl) (by kernel_rfl) (by kernel_rfl) (by kernel_rfl) (fun _ _ _ h => h) (by kernel_rfl) (fun w hw => by (try dsimp only at hw); go_simp) hH5 ?_
      simp only [List.setIfInBounds_toArray, List.set_cons_zero, List.set_cons_succ]
      refine stepH_one 18 (by kernel_rfl) ?_
      refine opH_store 18 (w5.setCell ⟨w.heap.size + 1, 0, none⟩ (.int .i64 (s2 : Nat))) rfl (by kernel_rfl) (by kernel_rfl) (exec_storeI (p := .tmp 3) (x := .tmp 28) (by kernel_rfl) (by kernel_rfl) (by kernel_rfl) (HBX.out _ hB5).1 (HBX.out _ hB5).2) (HST.out _ hH5) ?_
      refine wpAnyH_done (by kernel_rfl) ?_ _
      exact HFI.out w5 hB5
  case done =>
    rintro D ys W hD rfl ⟨h1, h2, hP, hB, hsz⟩ hK
    rw [sumF_all] at h2
    have hcell := blk_cell h2 0
    simp at hcell
    have HB := Hid.mk hB
    have HD : Hid (w.heap.size + 4 ≤ D) := Hid.mk (by omega)
    clear h1 h2 hP hB hsz hf
    gi_wp2
    refine ⟨by simp, .inl ⟨_, _, rfl, run_takeDeferred hK, ?_⟩⟩
    refine ⟨.int .i64 ((freeN t (G * S) : Nat) : Int), ?_, rfl, ?_⟩
    · exact results_tmp (fn := Try.f33) (t := 2) rfl _ _ _
    · exact HB.out.trans (belowK_b (w := w) (Nat.le_refl _) W D _ _ (by have := HD.out; omega) hK rfl rfl)
  case stop => rintro D c pre W hD _ h _; exact h.elim
end Go.Proofs.Ytjhfkcngaknbdaa
