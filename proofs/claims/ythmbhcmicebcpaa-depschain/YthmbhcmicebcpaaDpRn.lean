/-
  The reference's Next and Written.
-/
import Derived.Test.YthmbhcmicebcpaaDpRm
namespace Go.Proofs.Ythmbhcmicebcpaa
open Go Go.Proofs Go.RowKit Go.Shelf
attribute [local go_sem] Oper.semAt_some
/-- The numbers below k that p takes. -/
def pick (p : Nat → Bool) (k : Nat) : List Int := ((List.range k).filter p).map (fun j : Nat => (j : Int))
theorem pick_succ (p : Nat → Bool) (k : Nat) : pick p (k + 1) = if p k then pick p k ++ [(k : Int)] else pick p k := by
  unfold pick
  rw [List.range_succ, List.filter_append, List.map_append]
  by_cases h : p k = true
  · simp [h]
  · simp [h]
theorem pick_len (p : Nat → Bool) (k : Nat) : (pick p k).length ≤ k := by
  unfold pick
  have := List.length_filter_le p (List.range k)
  rw [List.length_range] at this
  rw [List.length_map]
  exact this
theorem pick_mem {p : Nat → Bool} {k : Nat} {x : Int} : x ∈ pick p k ↔ ∃ j : Nat, x = (j : Int) ∧ j < k ∧ p j = true := by
  unfold pick
  simp only [List.mem_map, List.mem_filter, List.mem_range]
  exact ⟨fun ⟨j, h, e⟩ => ⟨j, e.symm, h.1, h.2⟩, fun ⟨j, e, h⟩ => ⟨j, h, e.symm⟩⟩
theorem pick_pw (p : Nat → Bool) (k : Nat) : (pick p k).Pairwise (· < ·) := by
  induction k with
  | zero => exact List.Pairwise.nil
  | succ k ih =>
    rw [pick_succ]
    split
    · refine List.pairwise_append.2 ⟨ih, List.pairwise_singleton _ _, fun a ha b hb => ?_⟩
      obtain ⟨j, rfl, hj, _⟩ := pick_mem.1 ha
      rw [List.mem_singleton.1 hb]
      omega
    · exact ih
def nxB (G : Gp) (b : Int) (j : Nat) : Bool := decide (G.buf j = b) && mayB G j
theorem nx_same {G : Gp} {A : Ga} (h : Rel G A) (hG : G.Ok) (b : Int) : pick (nxB G b) G.n = nxL A b := by
  obtain ⟨p1, p2⟩ := nx_pw h b
  refine rise_ext (pick_pw _ _) p1 (fun x => ?_)
  rw [pick_mem, p2 x]
  constructor
  · rintro ⟨j, rfl, hj, q⟩
    unfold nxB at q
    rw [Bool.and_eq_true, decide_eq_true_eq] at q
    exact ⟨(may_iff hG ⟨by omega, by omega⟩).1 q.2, q.1⟩
  · rintro ⟨q1, q2⟩
    have hx := q1.1.1
    refine ⟨x.toNat, by omega, by omega, ?_⟩
    unfold nxB
    rw [show ((x.toNat : Nat) : Int) = x by omega, Bool.and_eq_true, decide_eq_true_eq]
    exact ⟨q2, (may_iff hG hx).2 q1⟩
theorem owns_lt {W : World} {B : Nat} {e : TypeId} {z n : Nat} {v : Value} {xs : List Value} (h : W.ownsRow B e z v n xs) {k : Nat} (hk : v.ownBlock = some k) : k < W.heap.size := by
  rcases h.2 with ⟨rfl, _⟩ | ⟨g, cap, cur, rfl, _, hg, _⟩
  · cases hk
  · cases hk; exact lt_of_block hg
theorem own_nil0 (w : World) (B : Nat) : w.ownsRow B 3 1 (.slice none 0 0) ([] : List Int).length (Iy []) := ⟨rfl, .inl ⟨rfl, rfl⟩⟩
section
variable {F : Nat → Prop} {w : World} {r : Nat} {v : Value} {G : Gp}
set_option maxRecDepth 100000 in
set_option maxHeartbeats 4000000 in
theorem rnext_any (h : RgAt F w r v G) (hG : G.Ok) (hn : G.n ≤ 1000000) (b : Int) : Calls Try.prog 17 #[ptV r, .int .i64 b] w fun e w' => ∃ u, e = .returned u ∧ Hid (w'.ownsRow w.heap.size 3 1 u (pick (nxB G b) G.n).length (Iy (pick (nxB G b) G.n)) ∧ Below w.heap.size w w') := by
  obtain ⟨ao, cap, rfl, _⟩ := h.slice
  obtain ⟨n, hnn⟩ : ∃ n, n = G.n := ⟨_, rfl⟩
  have HF : Hid (∀ W, Below w.heap.size w W → W.cell? ⟨r, 0, none⟩ = some (.slice ao n cap) ∧ (∀ j : Nat, j < n → (∃ gb, ao = some ⟨gb, 0, none⟩ ∧ W.cell? ⟨gb, j * 3, none⟩ = some (.int .i64 (G.buf j))) ∧ Calls Try.prog 34 #[ptV r, .int .i64 (j : Nat)] W fun e w' => e = .returned (.bool (mayB G j)) ∧ Below W.heap.size W w')) := Hid.mk (fun W hB => by
    have h2 := h.below hB
    rw [hnn]
    refine ⟨h2.cell, fun j hj => ⟨?_, rmay_any h2 hG j hj⟩⟩
    obtain ⟨gb, cap', e, _, _, _, _, hc⟩ := h2.at' (by omega)
    cases e
    exact ⟨gb, rfl, (hc j hj).1⟩)
  rw [← hnn] at hn ⊢
  obtain ⟨p, hp⟩ : ∃ p, p = nxB G b := ⟨_, rfl⟩
  rw [← hp]
  have HP : Hid (∀ j : Nat, p j = (decide (G.buf j = b) && mayB G j)) := Hid.mk (fun j => by rw [hp]; rfl)
  have HN := Hid.mk hn
  clear h hG hnn hp hn
  go_enter Try.func17, Try.ntmps17
  go_wp2
  go_loopw [5, 6, 7] (fun ov kv _ wr => ∃ k : Nat, kv = .int .i64 k ∧ Hid (k ≤ n ∧ wr.ownsRow w.heap.size 3 1 ov (pick p k).length (Iy (pick p k)) ∧ Below w.heap.size w wr)) (fun _ kv _ _ => n - (Go.RowKit.intOf kv).toNat)
  case atStart => exact ⟨0, rfl, Hid.mk ⟨Nat.zero_le _, own_nil0 _ _, Below.refl _ _⟩⟩
  case round =>
    obtain ⟨k, rfl, HK⟩ := hrel
    obtain ⟨f1, f2⟩ := HF.out wr HK.out.2.2
    by_cases hkl : (k : Int) < (n : Int)
    · have v1 : IntKind.i64.wrap ((k : Int) + 1) = ((k + 1 : Nat) : Int) := by have := HN.out; rw [IntKind.wrap_i64]; omega
      have HKL : Hid (k < n) := Hid.mk (by omega)
      obtain ⟨⟨gb, rfl, q1⟩, hM⟩ := f2 k HKL.out
      have HM := Hid.mk hM
      have k0 : (0 : Int) ≤ ((k : Nat) : Int) := by omega
      have e9 : (⟨gb, 0, none⟩ : Addr).add (k * 3) = ⟨gb, k * 3, none⟩ := by rw [add_at]; simp
      have HT := Hid.mk (pick_succ p k)
      obtain ⟨bk, hbk⟩ : ∃ bk, bk = G.buf k := ⟨_, rfl⟩
      rw [← hbk] at q1
      by_cases hb : bk = b
      · subst hb
        cases hm : mayB G k with
        | false =>
          have HT2 : Hid (pick p (k + 1) = pick p k) := Hid.mk (by rw [HT.out, HP.out, hm]; simp)
          rw [hm] at HM
          clear hM f2 hm HT hbk
          go_wp2_with (first
            | (go_at_call 34; refine HM.out.mono ?_; rintro e w1 ⟨rfl, hb1⟩; have HB1 := Hid.mk hb1; clear hb1 HM)
            | go_in)
          go_roundw
          case rel => exact ⟨k + 1, rfl, Hid.mk ⟨HKL.out, by rw [HT2.out]; exact own_same HK.out.2.1 (fun g hg => HB1.out.block g (owns_lt HK.out.2.1 hg)), HK.out.2.2.trans (HB1.out.mono HK.out.2.2.size)⟩⟩
          case measure => (have := HKL.out; simp [Go.RowKit.intOf]; omega)
        | true =>
          have HT2 : Hid (pick p (k + 1) = pick p k ++ [(k : Int)]) := Hid.mk (by rw [HT.out, HP.out, hm, ← hbk]; simp)
          rw [hm] at HM
          have HAP : Hid (∀ w1, Below wr.heap.size wr w1 → ∃ v' W', (Builtin.append_ #[23, 23] 23 #[u5, .slice (some ⟨w1.heap.size, 0, none⟩) 1 1]).run Try.prog (w1.alloc (.cells #[.int .i64 (k : Int)] 3)) = .ok v' W' ∧ Hid (W'.ownsRow w.heap.size 3 1 v' (pick p (k + 1)).length (Iy (pick p (k + 1))) ∧ Below w.heap.size w W')) := Hid.mk (fun w1 hB1 => by
            have hs := HK.out.2.2.size
            obtain ⟨v', W', a1, a2, a3⟩ := appendi_one w1 w.heap.size u5 (pick p k).length (pick p k) (own_same HK.out.2.1 (fun g hg => hB1.block g (owns_lt HK.out.2.1 hg))) (Nat.le_trans hs hB1.size) (k : Int) (by have := pick_len p k; have := HKL.out; have := HN.out; omega)
            refine ⟨v', W', a1, Hid.mk ⟨by rw [HT2.out, List.length_append]; exact a2, (HK.out.2.2.trans (hB1.mono hs)).trans a3⟩⟩)
          clear hM f2 hm HT hbk HK
          go_wp2_with (first
            | (go_at_call 34; refine HM.out.mono ?_; rintro e w1 ⟨rfl, hb1⟩; obtain ⟨v', W', a1, HW'⟩ := HAP.out w1 hb1; have HA1 := Hid.mk a1; clear hb1 HM a1)
            | (at_builtin; refine wpList_append_known rfl _ _ _ rfl _ _ _ _ rfl rfl HA1.out ?_; simp only [Act.put, List.setIfInBounds_toArray, List.set_cons_zero, List.set_cons_succ])
            | go_in)
          go_roundw
          case rel => exact ⟨k + 1, rfl, Hid.mk ⟨HKL.out, HW'.out⟩⟩
          case measure => (have := HKL.out; simp [Go.RowKit.intOf]; omega)
      · have hb1 : (bk == b) = false := beq_eq_false_iff_ne.2 hb
        have HT2 : Hid (pick p (k + 1) = pick p k) := Hid.mk (by rw [HT.out, HP.out, ← hbk]; simp [hb])
        clear hM f2 HT hbk HM
        go_wp2
        go_roundw
        case rel => exact ⟨k + 1, rfl, Hid.mk ⟨HKL.out, by rw [HT2.out]; exact HK.out.2⟩⟩
        case measure => (have := HKL.out; simp [Go.RowKit.intOf]; omega)
    · have HE : Hid (wr.ownsRow w.heap.size 3 1 u5 (pick p n).length (Iy (pick p n)) ∧ Below w.heap.size w wr) := Hid.mk (by
        have := HK.out
        rw [show k = n by omega] at this
        exact this.2)
      clear HK f2
      go_wp2
      go_ret
      exact ⟨_, rfl, HE⟩
end
end Go.Proofs.Ythmbhcmicebcpaa
