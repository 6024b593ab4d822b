/-
  The reference's own Alloc.
-/
import Derived.Test.YtjhfkcngaknbdaaAlRows
namespace Go.Proofs.Ytjhfkcngaknbdaa
open Go Go.Proofs Go.RowKit Go.Shelf

/-- The geometry that was asked for, and that of the Alloc that was made: the same, or nought. -/
def Geo2 (G I D : Int) (g i d : Nat) : Prop := (good G I D = true ∧ G = g ∧ I = i ∧ D = d) ∨ (good G I D = false ∧ g = 0 ∧ i = 0 ∧ d = 0)
theorem Geo2.nums {G I D : Int} {g i d : Nat} (h : Geo2 G I D g i d) : inoI G I D = ((g * (16 * i) : Nat) : Int) ∧ blkI G I D = ((g * d : Nat) : Int) ∧ g ≤ 8 ∧ i ≤ 4 ∧ d ≤ 1000 ∧ (0 < g → good G I D = true ∧ G = g ∧ I = i ∧ D = d ∧ 0 < i ∧ 0 < d) := by
  rcases h with ⟨hg, rfl, rfl, rfl⟩ | ⟨hg, rfl, rfl, rfl⟩
  · have hb := good_iff.1 hg
    refine ⟨by rw [ino_yes hg]; push_cast; rw [Int.mul_comm 16], by rw [blk_yes hg]; push_cast; rfl, by omega, by omega, by omega, fun _ => ⟨hg, rfl, rfl, rfl, by omega, by omega⟩⟩
  · exact ⟨by rw [ino_no hg]; rfl, by rw [blk_no hg]; rfl, by omega, by omega, by omega, fun h => by omega⟩
/-- The reference's Alloc lies at block r, its rows at s and u. -/
structure RfAt (W : World) (r s u : Nat) (G I D : Int) (N M : Nat) (ti td : Nat → Bool) : Prop where
  blk : W.heap[r]? = some (.cells #[.int .i64 G, .int .i64 I, .int .i64 D, .slice (some ⟨s, 0, none⟩) N N, .slice (some ⟨u, 0, none⟩) M M] 58 (0, 0))
  si : OwB W s N ti
  sd : OwB W u M td
  su : s ≠ u
  sr : s ≠ r
  ur : u ≠ r
theorem RfAt.keep {W W' : World} {r s u : Nat} {G I D : Int} {N M : Nat} {ti td : Nat → Bool} (h : RfAt W r s u G I D N M ti td) (hr : W'.heap[r]? = W.heap[r]?) (hs : W'.heap[s]? = W.heap[s]?) (hu : W'.heap[u]? = W.heap[u]?) : RfAt W' r s u G I D N M ti td :=
  ⟨hr.trans h.blk, h.si.keep hs, h.sd.keep hu, h.su, h.sr, h.ur⟩
theorem RfAt.lt {W : World} {r s u : Nat} {G I D : Int} {N M : Nat} {ti td : Nat → Bool} (h : RfAt W r s u G I D N M ti td) : r < W.heap.size ∧ s < W.heap.size ∧ u < W.heap.size := ⟨lt_of_block h.blk, h.si.lt, h.sd.lt⟩
theorem RfAt.below {W W' : World} {r s u : Nat} {G I D : Int} {N M : Nat} {ti td : Nat → Bool} (h : RfAt W r s u G I D N M ti td) (hB : Below W.heap.size W W') : RfAt W' r s u G I D N M ti td :=
  h.keep (hB.block _ h.lt.1) (hB.block _ h.lt.2.1) (hB.block _ h.lt.2.2)
theorem exec_box58 {ev : Operand → Value} {oi : Oper} {x : Operand} {cs : Array Value} {W : World} (ho : oi.op = .box 58 x) (hx : ev x = .agg cs) : (execOp ev oi).run Try.prog W = .ok (.value (.pointer (some ⟨W.heap.size, 0, none⟩))) (W.alloc (.cells cs 58)) := by
  unfold execOp
  rw [ho]
  simp only [hx]
  simp [Instr.box, newVar, newRow, Value.cells]
theorem info58 : (Try.prog.info? 58).map (fun i => (i.zero, i.size)) = some (some (.agg #[.int .i64 0, .int .i64 0, .int .i64 0, .slice none 0 0, .slice none 0 0]), 5) := by kernel_rfl
theorem info58p : ∃ i0, Try.prog.info? 58 = some i0 ∧ i0.zero = some (.agg #[.int .i64 0, .int .i64 0, .int .i64 0, .slice none 0 0, .slice none 0 0]) ∧ i0.size = 5 := by
  cases h : Try.prog.info? 58 with
  | none => have := info58; rw [h] at this; cases this
  | some i =>
    have h2 := info58
    rw [h] at h2
    simp at h2
    exact ⟨i, rfl, h2.1, h2.2⟩
theorem exec_build58 {ev : Operand → Value} {oi : Oper} {x y z : Operand} {a0 a1 a2 : Value} {W : World} {bo' co : Option Addr} {bl bc cl cc : Nat} (ho : oi.op = .build 58 #[(0, x), (1, y), (2, z)]) (hx : ev x = .agg #[a0, a1, a2]) (hy : ev y = .slice bo' bl bc) (hz : ev z = .slice co cl cc) : (execOp ev oi).run Try.prog W = .ok (.value (.agg #[a0, a1, a2, .slice bo' bl bc, .slice co cl cc])) W := by
  obtain ⟨i0, hi, hz0, hz1⟩ := info58p
  unfold execOp
  rw [ho]
  simp [Instr.build, run_underlying Try.underlying58, zeroValue, typeInfo, hi, hz0, Value.cells, Instr.fill, hx, hy, hz]
def nxV (r : Option Nat) : Int := match r with
  | some k => (k : Nat)
  | none => -1
set_option maxRecDepth 100000 in
set_option maxHeartbeats 4000000 in
theorem rnext_any (w : World) (s n : Nat) (f : Nat → Bool) (hO : OwB w s n f) (G p : Nat) (hn : n = G * p) (hG : G ≤ 8) (hp : p ≤ 1000) (per group : Int) (hper : 0 < n → per = p) :
    Calls Try.prog 31 #[.slice (some ⟨s, 0, none⟩) n n, .int .i64 per, .int .i64 group] w fun e w' => e = .returned (.int .i64 (nxV (nextN f n (grpOf G group * p)))) ∧ w' = w := by
  have hb : n ≤ 8000 := by rw [hn]; exact Nat.mul_le_mul hG hp
  rcases Nat.eq_zero_or_pos n with h0 | h0
  · subst h0
    have e : nextN f 0 (grpOf G group * p) = none := rfl
    rw [e]
    clear hn hper hO e hb
    go_enter Try.func31, Try.ntmps31
    go_wp2
    go_ret
    exact ⟨rfl, rfl⟩
  · obtain rfl := hper h0
    have hp0 : 0 < p := by rcases Nat.eq_zero_or_pos p with h | h; subst h; omega; exact h
    have q1 : Int.tdiv (n : Int) (p : Int) = (G : Int) := by
      rw [Int.tdiv_eq_ediv_of_nonneg (by omega)]
      have : n / p = G := by rw [hn]; exact Nat.mul_div_cancel _ hp0
      rw [← this]; rfl
    have q2 : IntKind.i64.wrap (G : Int) = (G : Int) := by rw [IntKind.wrap_i64]; omega
    have q3 : ¬ (p : Int) = 0 := by omega
    have q4 : ((p : Int) == 0) = false := by simp; omega
    have q5 : ¬ p = 0 := by omega
    have q6 : ¬ (n : Int) = 0 := by omega
    have q7 : ((n : Int) == 0) = false := by simp; omega
    have q8 : ¬ n = 0 := by omega
    have q9 : IntKind.i64.wrap (0 * (p : Int)) = 0 := by rw [IntKind.wrap_i64]; simp
    by_cases hin : 0 ≤ group ∧ group < (G : Int)
    · obtain ⟨g0, rfl⟩ : ∃ g0 : Nat, group = g0 := ⟨group.toNat, by omega⟩
      have hg : grpOf G (g0 : Int) = g0 := grp_in (by omega)
      rw [hg]
      obtain ⟨base, hbase⟩ : ∃ base, base = g0 * p := ⟨_, rfl⟩
      have HBS : Hid (base = g0 * p) := Hid.mk hbase
      have hbb : base ≤ 8000 := by rw [hbase]; exact Nat.mul_le_mul (show g0 ≤ 8 by omega) hp
      have r1 : IntKind.i64.wrap ((g0 : Int) * (p : Int)) = (base : Int) := by
        rw [show (g0 : Int) * (p : Int) = (base : Int) by rw [hbase]; push_cast; rfl, IntKind.wrap_i64]; omega
      have r2 : ¬ (g0 : Int) < 0 := by omega
      have r3 : ¬ (G : Int) ≤ (g0 : Int) := by omega
      clear hin hg hbase hn
      go_enter Try.func31, Try.ntmps31
      go_wp2
      go_loopw [7] (fun iv wr => ∃ k : Nat, iv = .int .i64 k ∧ wr = w ∧ Hid (k ≤ n ∧ ∀ j, j < k → f ((base + j) % n) = true)) (fun iv _ => n - (intOf iv).toNat)
      case atStart => exact ⟨0, rfl, rfl, Hid.mk ⟨Nat.zero_le _, fun j hj => by omega⟩⟩
      case round =>
        obtain ⟨k, rfl, rfl, HK⟩ := hrel
        by_cases hlt : (k : Int) < (n : Int)
        · obtain ⟨m, hm⟩ : ∃ m, m = (base + k) % n := ⟨_, rfl⟩
          have hmn : m < n := by rw [hm]; exact Nat.mod_lt _ (by omega)
          obtain ⟨bk, hbk⟩ : ∃ bk, bk = base + k := ⟨_, rfl⟩
          have v1 : IntKind.i64.wrap ((base : Int) + (k : Int)) = (bk : Int) := by rw [IntKind.wrap_i64]; omega
          have v2 : Int.tmod (bk : Int) (n : Int) = (m : Int) := by rw [Int.tmod_eq_emod_of_nonneg (by omega), hm, hbk]; rfl
          have v3 : IntKind.i64.wrap (m : Int) = (m : Int) := by rw [IntKind.wrap_i64]; omega
          have v4 : (0 : Int) ≤ (m : Int) := by omega
          have v5 : (m : Int) < (n : Int) := by omega
          obtain ⟨k1, hk1⟩ : ∃ k1, k1 = k + 1 := ⟨_, rfl⟩
          have v6 : IntKind.i64.wrap ((k : Int) + 1) = (k1 : Int) := by rw [IntKind.wrap_i64]; omega
          have hcell := hO.cell (i := m) hmn
          have HK1 : Hid (k1 = k + 1 ∧ k < n ∧ m = (base + k) % n) := Hid.mk ⟨hk1, by omega, hm⟩
          have HO := Hid.mk hO
          cases hf : f m with
          | false =>
            rw [hf] at hcell
            have HF := Hid.mk hf
            clear hf hm hmn hbk hk1 hO
            go_wp2
            go_ret
            obtain ⟨e1, e2, e3⟩ := HK1.out
            have := next_some (t := f) (N := n) (base := base) (J := k) e2 HK.out.2 (by rw [← e3]; exact HF.out)
            rw [← e3] at this
            rw [HBS.out] at this
            exact ⟨by (show _ = Ending.returned (.int .i64 (nxV (nextN f n (g0 * p)))); rw [this]; rfl), rfl⟩
          | true =>
            rw [hf] at hcell
            have HF := Hid.mk hf
            clear hf hm hmn hbk hk1 hO
            go_wp2
            go_roundw
            case rel =>
              obtain ⟨e1, e2, e3⟩ := HK1.out
              refine ⟨k1, rfl, by simp, Hid.mk ⟨by omega, fun j hj => ?_⟩⟩
              rcases Nat.lt_or_ge j k with h | h
              · exact HK.out.2 j h
              · obtain rfl : j = k := by omega
                rw [← e3]; exact HF.out
            case measure =>
              obtain ⟨e1, e2, e3⟩ := HK1.out
              simp [intOf]
              omega
        · have HN : Hid (nextN f n base = none) := Hid.mk (next_none (fun j hj => HK.out.2 j (by omega)))
          rw [HBS.out] at HN
          clear hO
          go_wp2
          go_ret
          exact ⟨by (show _ = Ending.returned (.int .i64 (nxV (nextN f n (g0 * p)))); rw [HN.out]; rfl), rfl⟩
    have hg : grpOf G group = 0 := by unfold grpOf; rw [if_neg hin]
    rw [hg, Nat.zero_mul]
    by_cases hneg : group < 0
    · clear hin hg hn
      go_enter Try.func31, Try.ntmps31
      go_wp2
      go_loopw [7] (fun iv wr => ∃ k : Nat, iv = .int .i64 k ∧ wr = w ∧ Hid (k ≤ n ∧ ∀ j, j < k → f ((0 + j) % n) = true)) (fun iv _ => n - (intOf iv).toNat)
      case atStart => exact ⟨0, rfl, rfl, Hid.mk ⟨Nat.zero_le _, fun j hj => by omega⟩⟩
      case round =>
        obtain ⟨k, rfl, rfl, HK⟩ := hrel
        by_cases hlt : (k : Int) < (n : Int)
        · obtain ⟨m, hm⟩ : ∃ m, m = (0 + k) % n := ⟨_, rfl⟩
          have hmn : m < n := by rw [hm]; exact Nat.mod_lt _ (by omega)
          obtain ⟨bk, hbk⟩ : ∃ bk, bk = 0 + k := ⟨_, rfl⟩
          have hmk : m = k := by rw [hm, Nat.zero_add]; exact Nat.mod_eq_of_lt (by omega)
          have v1 : (k : Int) % (n : Int) = (m : Int) := by rw [Int.emod_eq_of_lt (by omega) (by omega), hmk]
          have v2 : k % n = m := by rw [hmk]; exact Nat.mod_eq_of_lt (by omega)
          have v7 : IntKind.i64.wrap (k : Int) = (k : Int) := by rw [IntKind.wrap_i64]; omega
          have v8 : Int.tmod (k : Int) (n : Int) = (m : Int) := by rw [Int.tmod_eq_emod_of_nonneg (by omega)]; exact v1
          clear hmk
          have v3 : IntKind.i64.wrap (m : Int) = (m : Int) := by rw [IntKind.wrap_i64]; omega
          have v4 : (0 : Int) ≤ (m : Int) := by omega
          have v5 : (m : Int) < (n : Int) := by omega
          obtain ⟨k1, hk1⟩ : ∃ k1, k1 = k + 1 := ⟨_, rfl⟩
          have v6 : IntKind.i64.wrap ((k : Int) + 1) = (k1 : Int) := by rw [IntKind.wrap_i64]; omega
          have hcell := hO.cell (i := m) hmn
          have HK1 : Hid (k1 = k + 1 ∧ k < n ∧ m = (0 + k) % n) := Hid.mk ⟨hk1, by omega, hm⟩
          have HO := Hid.mk hO
          cases hf : f m with
          | false =>
            rw [hf] at hcell
            have HF := Hid.mk hf
            clear hf hm hmn hbk hk1 hO
            go_wp2
            go_ret
            obtain ⟨e1, e2, e3⟩ := HK1.out
            have := next_some (t := f) (N := n) (base := 0) (J := k) e2 HK.out.2 (by rw [← e3]; exact HF.out)
            rw [← e3] at this
            exact ⟨by (show _ = Ending.returned (.int .i64 (nxV (nextN f n 0))); rw [this]; rfl), rfl⟩
          | true =>
            rw [hf] at hcell
            have HF := Hid.mk hf
            clear hf hm hmn hbk hk1 hO
            go_wp2
            go_roundw
            case rel =>
              obtain ⟨e1, e2, e3⟩ := HK1.out
              refine ⟨k1, rfl, by simp, Hid.mk ⟨by omega, fun j hj => ?_⟩⟩
              rcases Nat.lt_or_ge j k with h | h
              · exact HK.out.2 j h
              · obtain rfl : j = k := by omega
                rw [← e3]; exact HF.out
            case measure =>
              obtain ⟨e1, e2, e3⟩ := HK1.out
              simp [intOf]
              omega
        · have HN : Hid (nextN f n 0 = none) := Hid.mk (next_none (fun j hj => HK.out.2 j (by omega)))
          clear hO
          go_wp2
          go_ret
          exact ⟨by (show _ = Ending.returned (.int .i64 (nxV (nextN f n 0))); rw [HN.out]; rfl), rfl⟩
    · have hge : (G : Int) ≤ group := by omega
      clear hin hg hn
      go_enter Try.func31, Try.ntmps31
      go_wp2
      go_loopw [7] (fun iv wr => ∃ k : Nat, iv = .int .i64 k ∧ wr = w ∧ Hid (k ≤ n ∧ ∀ j, j < k → f ((0 + j) % n) = true)) (fun iv _ => n - (intOf iv).toNat)
      case atStart => exact ⟨0, rfl, rfl, Hid.mk ⟨Nat.zero_le _, fun j hj => by omega⟩⟩
      case round =>
        obtain ⟨k, rfl, rfl, HK⟩ := hrel
        by_cases hlt : (k : Int) < (n : Int)
        · obtain ⟨m, hm⟩ : ∃ m, m = (0 + k) % n := ⟨_, rfl⟩
          have hmn : m < n := by rw [hm]; exact Nat.mod_lt _ (by omega)
          obtain ⟨bk, hbk⟩ : ∃ bk, bk = 0 + k := ⟨_, rfl⟩
          have hmk : m = k := by rw [hm, Nat.zero_add]; exact Nat.mod_eq_of_lt (by omega)
          have v1 : (k : Int) % (n : Int) = (m : Int) := by rw [Int.emod_eq_of_lt (by omega) (by omega), hmk]
          have v2 : k % n = m := by rw [hmk]; exact Nat.mod_eq_of_lt (by omega)
          have v7 : IntKind.i64.wrap (k : Int) = (k : Int) := by rw [IntKind.wrap_i64]; omega
          have v8 : Int.tmod (k : Int) (n : Int) = (m : Int) := by rw [Int.tmod_eq_emod_of_nonneg (by omega)]; exact v1
          clear hmk
          have v3 : IntKind.i64.wrap (m : Int) = (m : Int) := by rw [IntKind.wrap_i64]; omega
          have v4 : (0 : Int) ≤ (m : Int) := by omega
          have v5 : (m : Int) < (n : Int) := by omega
          obtain ⟨k1, hk1⟩ : ∃ k1, k1 = k + 1 := ⟨_, rfl⟩
          have v6 : IntKind.i64.wrap ((k : Int) + 1) = (k1 : Int) := by rw [IntKind.wrap_i64]; omega
          have hcell := hO.cell (i := m) hmn
          have HK1 : Hid (k1 = k + 1 ∧ k < n ∧ m = (0 + k) % n) := Hid.mk ⟨hk1, by omega, hm⟩
          have HO := Hid.mk hO
          cases hf : f m with
          | false =>
            rw [hf] at hcell
            have HF := Hid.mk hf
            clear hf hm hmn hbk hk1 hO
            go_wp2
            go_ret
            obtain ⟨e1, e2, e3⟩ := HK1.out
            have := next_some (t := f) (N := n) (base := 0) (J := k) e2 HK.out.2 (by rw [← e3]; exact HF.out)
            rw [← e3] at this
            exact ⟨by (show _ = Ending.returned (.int .i64 (nxV (nextN f n 0))); rw [this]; rfl), rfl⟩
          | true =>
            rw [hf] at hcell
            have HF := Hid.mk hf
            clear hf hm hmn hbk hk1 hO
            go_wp2
            go_roundw
            case rel =>
              obtain ⟨e1, e2, e3⟩ := HK1.out
              refine ⟨k1, rfl, by simp, Hid.mk ⟨by omega, fun j hj => ?_⟩⟩
              rcases Nat.lt_or_ge j k with h | h
              · exact HK.out.2 j h
              · obtain rfl : j = k := by omega
                rw [← e3]; exact HF.out
            case measure =>
              obtain ⟨e1, e2, e3⟩ := HK1.out
              simp [intOf]
              omega
        · have HN : Hid (nextN f n 0 = none) := Hid.mk (next_none (fun j hj => HK.out.2 j (by omega)))
          clear hO
          go_wp2
          go_ret
          exact ⟨by (show _ = Ending.returned (.int .i64 (nxV (nextN f n 0))); rw [HN.out]; rfl), rfl⟩
theorem RfAt.turnI {W W' : World} {r s u : Nat} {G I D : Int} {N M k : Nat} {ti td : Nat → Bool} (h : RfAt W r s u G I D N M ti td) (v : Bool) (hW : W' = W.setCell ⟨s, k, none⟩ (.bool v)) : RfAt W' r s u G I D N M (updT ti k v) td ∧ Only (fun j => j = s) W W' := by
  subst hW
  refine ⟨⟨?_, h.si.set v, ?_, h.su, h.sr, h.ur⟩, (Only.refl (fun j => j = s) W).setCell (p := ⟨s, k, none⟩) (.inl rfl) _⟩
  · rw [Below.heap_setCell _ _ _ _ (fun e => h.sr e.symm)]; exact h.blk
  · exact h.sd.keep (Below.heap_setCell _ _ _ _ (fun e => h.su e.symm))
theorem RfAt.turnD {W W' : World} {r s u : Nat} {G I D : Int} {N M k : Nat} {ti td : Nat → Bool} (h : RfAt W r s u G I D N M ti td) (v : Bool) (hW : W' = W.setCell ⟨u, k, none⟩ (.bool v)) : RfAt W' r s u G I D N M ti (updT td k v) ∧ Only (fun j => j = u) W W' := by
  subst hW
  refine ⟨⟨?_, ?_, h.sd.set v, h.su, h.sr, h.ur⟩, (Only.refl (fun j => j = u) W).setCell (p := ⟨u, k, none⟩) (.inl rfl) _⟩
  · rw [Below.heap_setCell _ _ _ _ (fun e => h.ur e.symm)]; exact h.blk
  · exact h.si.keep (Below.heap_setCell _ _ _ _ h.su)
set_option maxRecDepth 100000 in
set_option maxHeartbeats 4000000 in
theorem rinode_any (w : World) (r s u : Nat) (G I D : Int) (g i d : Nat) (hg : Geo2 G I D g i d) (ti td : Nat → Bool) (N M : Nat) (hN : N = g * (16 * i)) (h : RfAt w r s u G I D N M ti td) (group : Int) :
    Calls Try.prog 13 #[.pointer (some ⟨r, 0, none⟩), .int .i64 group] w fun e w' => e = .returned (inR (nxI g i ti group)) ∧ RfAt w' r s u G I D N M (updO ti (nxI g i ti group)) td ∧ Below w.heap.size w.drew w.drew ∧ Only (fun j => j = s) w w' := by
  obtain ⟨n1, n2, g8, i4, d1, hpos⟩ := hg.nums
  have c1 : w.cell? ⟨r, 1, none⟩ = some (.int .i64 I) := by rw [blk_cell h.blk]; rfl
  have c3 : w.cell? ⟨r, 3, none⟩ = some (.slice (some ⟨s, 0, none⟩) N N) := by rw [blk_cell h.blk]; rfl
  obtain ⟨per, hper⟩ : ∃ per, per = IntKind.i64.wrap (16 * I) := ⟨_, rfl⟩
  have hper2 : 0 < N → per = ((16 * i : Nat) : Int) := fun h0 => by
    have hg0 : 0 < g := by rcases Nat.eq_zero_or_pos g with e | e; rw [e] at hN; simp at hN; omega; exact e
    obtain ⟨_, _, hI, _⟩ := hpos hg0
    rw [hper, hI, IntKind.wrap_i64]; omega
  have HNX : Hid (∀ W : World, W.heap = w.heap → Calls Try.prog 31 #[.slice (some ⟨s, 0, none⟩) N N, .int .i64 per, .int .i64 group] W fun e w' => e = .returned (.int .i64 (nxV (nxI g i ti group))) ∧ w' = W) := Hid.mk (fun W e => by
    have := rnext_any W s N ti (h.si.keep (by rw [e])) g (16 * i) hN g8 (by omega) per group hper2
    rw [hN] at this ⊢
    exact this)
  have hlt : ∀ k, nxI g i ti group = some k → k < N := fun k hk => by rw [hN]; exact (next_is hk).1
  have hNb : N ≤ 512 := by rw [hN]; exact Nat.mul_le_mul g8 (show 16 * i ≤ 64 by omega)
  have HR := Hid.mk h
  have hpw : IntKind.i64.wrap (16 * I) = per := hper.symm
  clear n1 n2 g8 i4 d1 hpos hper2 hN hg hper
  generalize nxI g i ti group = res at *
  cases res with
  | none =>
    dsimp only [nxV] at HNX
    clear hlt h
    go_enter Try.func13, Try.ntmps13
    go_wp2_with fail
    refine wp_region_held_drew (S := fun W => W.cell? ⟨r, 1, none⟩ = some (.int .i64 I) ∧ W.cell? ⟨r, 3, none⟩ = some (.slice (some ⟨s, 0, none⟩) N N)) (by kernel_rfl) ⟨c1, c3⟩ (fun hH => ?_)
    change wpAnyH Try.prog Region.Mode.any _ _ _ 13 _ _ _
    refine takeH 0 7 (.pointer (some ⟨r, 0, none⟩)) rfl (by kernel_rfl) (by kernel_rfl) (by kernel_rfl) (by kernel_rfl) (fun _ _ _ h => h) (by kernel_rfl) (fun w hw => by kernel_rfl) hH ?_
    simp only [List.setIfInBounds_toArray, List.set_cons_zero, List.set_cons_succ]
    refine takeH 1 8 (.pointer (some ⟨r, 0, none⟩)) rfl (by kernel_rfl) (by kernel_rfl) (by kernel_rfl) (by kernel_rfl) (fun _ _ _ h => h) (by kernel_rfl) (fun w hw => by (try dsimp only at hw); go_simp) hH ?_
    simp only [List.setIfInBounds_toArray, List.set_cons_zero, List.set_cons_succ]
    refine takeH 2 9 (.pointer (some ⟨r, 3, none⟩)) rfl (by kernel_rfl) (by kernel_rfl) (by kernel_rfl) (by kernel_rfl) (fun _ _ _ h => h) (by kernel_rfl) (fun w hw => by (try dsimp only at hw); go_simp) hH ?_
    simp only [List.setIfInBounds_toArray, List.set_cons_zero, List.set_cons_succ]
    refine takeH 3 10 (.slice (some ⟨s, 0, none⟩) N N) rfl (by kernel_rfl) (by kernel_rfl) (by kernel_rfl) (by kernel_rfl) (fun _ _ _ h => h) (by kernel_rfl) (fun w hw => by (try dsimp only at hw); go_simp) hH ?_
    simp only [List.setIfInBounds_toArray, List.set_cons_zero, List.set_cons_succ]
    refine takeH 4 11 (.pointer (some ⟨r, 0, none⟩)) rfl (by kernel_rfl) (by kernel_rfl) (by kernel_rfl) (by kernel_rfl) (fun _ _ _ h => h) (by kernel_rfl) (fun w hw => by kernel_rfl) hH ?_
    simp only [List.setIfInBounds_toArray, List.set_cons_zero, List.set_cons_succ]
    refine takeH 5 12 (.pointer (some ⟨r, 0, none⟩)) rfl (by kernel_rfl) (by kernel_rfl) (by kernel_rfl) (by kernel_rfl) (fun _ _ _ h => h) (by kernel_rfl) (fun w hw => by (try dsimp only at hw); go_simp) hH ?_
    simp only [List.setIfInBounds_toArray, List.set_cons_zero, List.set_cons_succ]
    refine takeH 6 13 (.pointer (some ⟨r, 0, none⟩)) rfl (by kernel_rfl) (by kernel_rfl) (by kernel_rfl) (by kernel_rfl) (fun _ _ _ h => h) (by kernel_rfl) (fun w hw => by (try dsimp only at hw); go_simp) hH ?_
    simp only [List.setIfInBounds_toArray, List.set_cons_zero, List.set_cons_succ]
    refine takeH 7 14 (.pointer (some ⟨r, 1, none⟩)) rfl (by kernel_rfl) (by kernel_rfl) (by kernel_rfl) (by kernel_rfl) (fun _ _ _ h => h) (by kernel_rfl) (fun w hw => by (try dsimp only at hw); go_simp) hH ?_
    simp only [List.setIfInBounds_toArray, List.set_cons_zero, List.set_cons_succ]
    refine takeH 8 15 (.int .i64 I) rfl (by kernel_rfl) (by kernel_rfl) (by kernel_rfl) (by kernel_rfl) (fun _ _ _ h => h) (by kernel_rfl) (fun w hw => by (try dsimp only at hw); go_simp) hH ?_
    simp only [List.setIfInBounds_toArray, List.set_cons_zero, List.set_cons_succ]
    refine takeH 9 16 (.int .i64 per) rfl (by kernel_rfl) (by kernel_rfl) (by kernel_rfl) (by kernel_rfl) (fun _ _ _ h => h) (by kernel_rfl) (fun w hw => by (try dsimp only at hw); go_simp) hH ?_
    simp only [List.setIfInBounds_toArray, List.set_cons_zero, List.set_cons_succ]
    refine takeH 10 17 (.int .i64 group) rfl (by kernel_rfl) (by kernel_rfl) (by kernel_rfl) (by kernel_rfl) (fun _ _ _ h => h) (by kernel_rfl) (fun w hw => by kernel_rfl) hH ?_
    simp only [List.setIfInBounds_toArray, List.set_cons_zero, List.set_cons_succ]
    refine stepH_call 11 18 rfl (by kernel_rfl) (by kernel_rfl) (by kernel_rfl) 31 #[.tmp 10, .tmp 16, .tmp 17] #[44, 3, 3] (by kernel_rfl) (enters_of Try.func31 (by kernel_rfl) rfl) #[.slice (some ⟨s, 0, none⟩) N N, .int .i64 per, .int .i64 group] (by kernel_rfl) (HNX.out _ rfl) ?_
    rintro e w6 ⟨rfl, hw6⟩
    subst w6
    refine ⟨_, rfl, hH, ?_⟩
    simp only [List.setIfInBounds_toArray, List.set_cons_zero, List.set_cons_succ]
    refine takeH 12 6 (.int .i64 (-1)) rfl (by kernel_rfl) (by kernel_rfl) (by kernel_rfl) (by kernel_rfl) (fun _ _ _ h => h) (by kernel_rfl) (fun w hw => by kernel_rfl) hH ?_
    simp only [List.setIfInBounds_toArray, List.set_cons_zero, List.set_cons_succ]
    refine wpAnyH_done (by kernel_rfl) ?_ _
    go_wp2
    go_ret2
    exact ⟨rfl, HR.out.keep rfl rfl rfl, Below.refl _ _, (Only.refl _ _).drew⟩
  | some k =>
    have hk := hlt k rfl
    have hfin := (HR.out.keep (W' := w.drew) rfl rfl rfl).turnI (k := k) true rfl
    have hcell : w.drew.cell? ⟨s, k, none⟩ = some (.bool (ti k)) := h.si.cell hk
    have hfree : w.drew.frozen? ⟨s, k, none⟩ = false := blk_free h.si k
    have hR : inR (some k) = .tuple #[.int .i64 ((k + 1 : Nat) : Int), .bool true] := rfl
    rw [hR]
    have v1 : IntKind.i64.wrap ((k : Int) + 1) = ((k + 1 : Nat) : Int) := by rw [IntKind.wrap_i64]; omega
    generalize ((k + 1 : Nat) : Int) = k1 at *
    have v2 : (0 : Int) ≤ (k : Int) := by omega
    have v3 : (k : Int) < (N : Int) := by omega
    have v4 : ¬ (k : Int) < 0 := by omega
    have HF := Hid.mk hfin
    dsimp only [nxV] at HNX
    clear hlt h hfin hR hk
    go_enter Try.func13, Try.ntmps13
    go_wp2_with fail
    refine wp_region_held_drew (S := fun W => W.cell? ⟨r, 1, none⟩ = some (.int .i64 I) ∧ W.cell? ⟨r, 3, none⟩ = some (.slice (some ⟨s, 0, none⟩) N N)) (by kernel_rfl) ⟨c1, c3⟩ (fun hH => ?_)
    change wpAnyH Try.prog Region.Mode.any _ _ _ 13 _ _ _
    refine takeH 0 7 (.pointer (some ⟨r, 0, none⟩)) rfl (by kernel_rfl) (by kernel_rfl) (by kernel_rfl) (by kernel_rfl) (fun _ _ _ h => h) (by kernel_rfl) (fun w hw => by kernel_rfl) hH ?_
    simp only [List.setIfInBounds_toArray, List.set_cons_zero, List.set_cons_succ]
    refine takeH 1 8 (.pointer (some ⟨r, 0, none⟩)) rfl (by kernel_rfl) (by kernel_rfl) (by kernel_rfl) (by kernel_rfl) (fun _ _ _ h => h) (by kernel_rfl) (fun w hw => by (try dsimp only at hw); go_simp) hH ?_
    simp only [List.setIfInBounds_toArray, List.set_cons_zero, List.set_cons_succ]
    refine takeH 2 9 (.pointer (some ⟨r, 3, none⟩)) rfl (by kernel_rfl) (by kernel_rfl) (by kernel_rfl) (by kernel_rfl) (fun _ _ _ h => h) (by kernel_rfl) (fun w hw => by (try dsimp only at hw); go_simp) hH ?_
    simp only [List.setIfInBounds_toArray, List.set_cons_zero, List.set_cons_succ]
    refine takeH 3 10 (.slice (some ⟨s, 0, none⟩) N N) rfl (by kernel_rfl) (by kernel_rfl) (by kernel_rfl) (by kernel_rfl) (fun _ _ _ h => h) (by kernel_rfl) (fun w hw => by (try dsimp only at hw); go_simp) hH ?_
    simp only [List.setIfInBounds_toArray, List.set_cons_zero, List.set_cons_succ]
    refine takeH 4 11 (.pointer (some ⟨r, 0, none⟩)) rfl (by kernel_rfl) (by kernel_rfl) (by kernel_rfl) (by kernel_rfl) (fun _ _ _ h => h) (by kernel_rfl) (fun w hw => by kernel_rfl) hH ?_
    simp only [List.setIfInBounds_toArray, List.set_cons_zero, List.set_cons_succ]
    refine takeH 5 12 (.pointer (some ⟨r, 0, none⟩)) rfl (by kernel_rfl) (by kernel_rfl) (by kernel_rfl) (by kernel_rfl) (fun _ _ _ h => h) (by kernel_rfl) (fun w hw => by (try dsimp only at hw); go_simp) hH ?_
    simp only [List.setIfInBounds_toArray, List.set_cons_zero, List.set_cons_succ]
    refine takeH 6 13 (.pointer (some ⟨r, 0, none⟩)) rfl (by kernel_rfl) (by kernel_rfl) (by kernel_rfl) (by kernel_rfl) (fun _ _ _ h => h) (by kernel_rfl) (fun w hw => by (try dsimp only at hw); go_simp) hH ?_
    simp only [List.setIfInBounds_toArray, List.set_cons_zero, List.set_cons_succ]
    refine takeH 7 14 (.pointer (some ⟨r, 1, none⟩)) rfl (by kernel_rfl) (by kernel_rfl) (by kernel_rfl) (by kernel_rfl) (fun _ _ _ h => h) (by kernel_rfl) (fun w hw => by (try dsimp only at hw); go_simp) hH ?_
    simp only [List.setIfInBounds_toArray, List.set_cons_zero, List.set_cons_succ]
    refine takeH 8 15 (.int .i64 I) rfl (by kernel_rfl) (by kernel_rfl) (by kernel_rfl) (by kernel_rfl) (fun _ _ _ h => h) (by kernel_rfl) (fun w hw => by (try dsimp only at hw); go_simp) hH ?_
    simp only [List.setIfInBounds_toArray, List.set_cons_zero, List.set_cons_succ]
    refine takeH 9 16 (.int .i64 per) rfl (by kernel_rfl) (by kernel_rfl) (by kernel_rfl) (by kernel_rfl) (fun _ _ _ h => h) (by kernel_rfl) (fun w hw => by (try dsimp only at hw); go_simp) hH ?_
    simp only [List.setIfInBounds_toArray, List.set_cons_zero, List.set_cons_succ]
    refine takeH 10 17 (.int .i64 group) rfl (by kernel_rfl) (by kernel_rfl) (by kernel_rfl) (by kernel_rfl) (fun _ _ _ h => h) (by kernel_rfl) (fun w hw => by kernel_rfl) hH ?_
    simp only [List.setIfInBounds_toArray, List.set_cons_zero, List.set_cons_succ]
    refine stepH_call 11 18 rfl (by kernel_rfl) (by kernel_rfl) (by kernel_rfl) 31 #[.tmp 10, .tmp 16, .tmp 17] #[44, 3, 3] (by kernel_rfl) (enters_of Try.func31 (by kernel_rfl) rfl) #[.slice (some ⟨s, 0, none⟩) N N, .int .i64 per, .int .i64 group] (by kernel_rfl) (HNX.out _ rfl) ?_
    rintro e w6 ⟨rfl, hw6⟩
    subst w6
    refine ⟨_, rfl, hH, ?_⟩
    simp only [List.setIfInBounds_toArray, List.set_cons_zero, List.set_cons_succ]
    refine takeH 12 6 (.int .i64 (k : Nat)) rfl (by kernel_rfl) (by kernel_rfl) (by kernel_rfl) (by kernel_rfl) (fun _ _ _ h => h) (by kernel_rfl) (fun w hw => by kernel_rfl) hH ?_
    simp only [List.setIfInBounds_toArray, List.set_cons_zero, List.set_cons_succ]
    refine wpAnyH_done (by kernel_rfl) ?_ _
    obtain ⟨hH1, hH3⟩ := hH
    go_wp2
    go_ret2
    exact ⟨rfl, HF.out.1, Below.refl _ _, ⟨HF.out.2.os, HF.out.2.tape, HF.out.2.output, HF.out.2.size, HF.out.2.block⟩⟩
end Go.Proofs.Ytjhfkcngaknbdaa
