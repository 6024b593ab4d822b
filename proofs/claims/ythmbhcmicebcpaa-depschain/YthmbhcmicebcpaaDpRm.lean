/-
  The reference's may, Left.
-/
import Derived.Test.YthmbhcmicebcpaaDpRg
import Derived.BigQuiet
namespace Go.Proofs.Ythmbhcmicebcpaa
open Go Go.Proofs Go.RowKit Go.Shelf
attribute [local go_sem] Oper.semAt_some
theorem all_take {xs : List Int} {f : Int → Bool} {k : Nat} (hk : k < xs.length) : (xs.take (k + 1)).all f = ((xs.take k).all f && f (xs.getD k 0)) := by
  rw [List.take_add_one, List.getElem?_eq_getElem hk, List.all_append]
  simp [List.getD, List.getElem?_eq_getElem hk]
section
variable {F : Nat → Prop} {w : World} {r : Nat} {v : Value} {G : Gp}
set_option maxRecDepth 100000 in
set_option maxHeartbeats 4000000 in
theorem rmay_any (h : RgAt F w r v G) (hG : G.Ok) (i : Nat) (hi : i < G.n) : Calls Try.prog 34 #[ptV r, .int .i64 (i : Nat)] w fun e w' => e = .returned (.bool (mayB G i)) ∧ Below w.heap.size w w' := by
  obtain ⟨gb, cap, rfl, hne, _, hgl, _, hc⟩ := h.at' (by omega)
  have c0 := h.cell
  obtain ⟨d1, ⟨ao, m, cc, d2, dl, dm⟩, d3⟩ := hc i hi
  obtain ⟨n, hn⟩ : ∃ n, n = G.n := ⟨_, rfl⟩
  rw [← hn] at c0 hi hc
  have HDG : Hid (∀ x ∈ G.on i, ∃ k : Nat, x = (k : Nat) ∧ k < n) := Hid.mk (fun x hx => by
    have := hG.dag i x ⟨by omega, by omega⟩ hx
    exact ⟨x.toNat, by omega, by omega⟩)
  have HC := Hid.mk hc
  have i1 : ((i : Nat) : Int) < (n : Int) := by omega
  have i0 : (0 : Int) ≤ ((i : Nat) : Int) := by omega
  have e8 : (⟨gb, 0, none⟩ : Addr).add (i * 3) = ⟨gb, i * 3, none⟩ := by rw [add_at]; simp
  obtain ⟨w0, hw0⟩ : ∃ w0, w0 = w.alloc (.cells #[.int .i64 (G.buf i), .slice ao m cc, .bool (G.dn i)] 34) := ⟨_, rfl⟩
  have hB : Below w.heap.size w w0 := by rw [hw0]; exact (Below.refl _ w).alloc (Nat.le_refl _) _
  have hbx : w0.heap[w.heap.size]? = some (.cells #[.int .i64 (G.buf i), .slice ao m cc, .bool (G.dn i)] 34 (0, 0)) := by rw [hw0]; exact blk_new w _
  obtain ⟨b, hb⟩ : ∃ b, b = w.heap.size := ⟨_, rfl⟩
  have HF : Hid (∀ W, Below w0.heap.size w0 W → W.cell? ⟨r, 0, none⟩ = some (.slice (some ⟨gb, 0, none⟩) n cap) ∧ W.cell? ⟨b, 1, none⟩ = some (.slice ao m cc) ∧ W.cell? ⟨b, 2, none⟩ = some (.bool (G.dn i)) ∧ LAt W ao m (G.on i) ∧ (∀ j : Nat, j < n → W.cell? ⟨gb, j * 3 + 2, none⟩ = some (.bool (G.dn j))) ∧ Below w.heap.size w W) := Hid.mk (fun W hB2 => by
    have hBw : Below w.heap.size w W := hB.trans (hB2.mono hB.size)
    have hx := (hB2.block _ (lt_of_block hbx)).trans hbx
    rw [← hb] at hx
    refine ⟨?_, by rw [blk_cell hx]; rfl, by rw [blk_cell hx]; rfl, dl.next hBw, fun j hj => ?_, hBw⟩
    · have := (h.below hBw).cell
      rw [← hn] at this
      exact this
    · rw [World.cell?_of_block (w := w) (hBw.block gb hgl)]
      exact (HC.out j hj).2.2)
  obtain ⟨xs, hxs⟩ : ∃ xs, xs = G.on i := ⟨_, rfl⟩
  rw [← hxs] at HF HDG
  have HL : Hid (xs.length = m ∧ m ≤ 1000000) := Hid.mk ⟨by rw [hxs]; exact dl.1, dm⟩
  obtain ⟨dn, hdn⟩ : ∃ dn, dn = G.dn i := ⟨_, rfl⟩
  obtain ⟨res, hres⟩ : ∃ res, res = mayB G i := ⟨_, rfl⟩
  rw [← hres]
  have HR : Hid (res = (xs.all (fun x => G.dn x) && !dn)) := Hid.mk (by rw [hres, hdn, hxs]; rfl)
  rw [← hdn] at HF d3 hw0
  obtain ⟨bf, hbf⟩ : ∃ bf, bf = G.buf i := ⟨_, rfl⟩
  rw [← hbf] at d1 hw0
  clear hc dl dm hn hxs hdn hres hbf h hB hbx hG hgl
  go_enter Try.func34, Try.ntmps34
  go_wp2
  rw [← hw0, ← hb]
  clear hw0 hb c0 d1 d2 d3 e8
  go_loopw [6] (fun kv wr => ∃ k : Nat, kv = .int .i64 k ∧ Hid (Below w0.heap.size w0 wr ∧ k ≤ m ∧ (xs.take k).all (fun x => G.dn x) = true)) (fun kv _ => m - (Go.RowKit.intOf kv).toNat)
  case atStart => exact ⟨0, rfl, Hid.mk ⟨Below.refl _ _, Nat.zero_le _, by simp⟩⟩
  case round =>
    obtain ⟨k, rfl, HK⟩ := hrel
    obtain ⟨f1, f2, f3, f4, f5, f6⟩ := HF.out wr HK.out.1
    by_cases hkl : (k : Int) < (m : Int)
    · have v1 : IntKind.i64.wrap ((k : Int) + 1) = ((k + 1 : Nat) : Int) := by have := HL.out; rw [IntKind.wrap_i64]; omega
      have HKL : Hid (k < m ∧ k < xs.length) := Hid.mk (by have := HL.out; omega)
      obtain ⟨a, rfl, _, hca⟩ := f4.2 (by omega)
      have q1 := hca k HKL.out.1
      obtain ⟨y, hy, hyn⟩ := HDG.out (xs.getD k 0) (by rw [List.getD, List.getElem?_eq_getElem HKL.out.2]; exact List.getElem_mem _)
      have HT := Hid.mk (all_take (f := fun x => G.dn x) HKL.out.2)
      rw [hy] at q1 HT
      have q2 := f5 y hyn
      have y1 : ((y : Nat) : Int) < (n : Int) := by omega
      have y0 : (0 : Int) ≤ ((y : Nat) : Int) := by omega
      have k0 : (0 : Int) ≤ ((k : Nat) : Int) := by omega
      have e9 : (⟨gb, 0, none⟩ : Addr).add (y * 3) = ⟨gb, y * 3, none⟩ := by rw [add_at]; simp
      have HBW : Hid (∀ q, Below w0.heap.size w0 (wr.drewN q)) := Hid.mk (fun q => HK.out.1.trans (below_drewN' _ _ _ HK.out.1.size))
      have HBX : Hid (∀ q, Below w.heap.size w (wr.drewN q)) := Hid.mk (fun q => (HF.out _ (HBW.out q)).2.2.2.2.2)
      have HA := Hid.mk HK.out.2.2
      cases hd : G.dn (y : Nat) with
      | true =>
        rw [hd] at q2
        have HT2 : Hid ((xs.take (k + 1)).all (fun x => G.dn x) = true) := Hid.mk (by rw [HT.out, HA.out, hd]; rfl)
        clear hca f4 f5 f6 hy hyn HK hd HT HA
        go_wp2
        go_quiet (fail)
        go_wp2
        go_roundw
        case rel => exact ⟨k + 1, rfl, Hid.mk ⟨HBW.out _, HKL.out.1, HT2.out⟩⟩
        case measure => (have := HKL.out.1; simp [Go.RowKit.intOf]; omega)
      | false =>
        rw [hd] at q2
        have HE : Hid (false = res) := Hid.mk (by
          rw [HR.out]
          have : xs.all (fun x => G.dn x) = false := by
            rw [Bool.eq_false_iff]
            intro hall
            have := List.all_eq_true.1 hall (xs.getD k 0) (by rw [List.getD, List.getElem?_eq_getElem HKL.out.2]; exact List.getElem_mem _)
            rw [hy, hd] at this
            cases this
          rw [this]
          rfl)
        clear hca f4 f5 f6 hy hyn HK hd HT HA
        go_wp2
        go_quiet (fail)
        go_wp2
        go_ret
        exact ⟨congrArg (fun b => Ending.returned (.bool b)) HE.out, HBX.out _⟩
    · have HE : Hid ((!dn) = res) := Hid.mk (by
        rw [HR.out]
        have := HK.out.2.2
        rw [List.take_of_length_le (by have := HL.out; omega)] at this
        rw [this]
        rfl)
      have HB9 := Hid.mk f6
      clear HK f4 f5 f6
      go_wp2
      go_ret
      exact ⟨congrArg (fun b => Ending.returned (.bool b)) HE.out, HB9.out⟩
theorem cnt_take (G : Gp) (k : Nat) : ((List.range (k + 1)).filter (fun j => !G.dn ((j : Nat) : Int))).length = ((List.range k).filter (fun j => !G.dn ((j : Nat) : Int))).length + (if G.dn (k : Nat) then 0 else 1) := by
  rw [List.range_succ, List.filter_append, List.length_append]
  cases hd : G.dn ((k : Nat) : Int) <;> simp [hd]
theorem cnt_lek (G : Gp) (k : Nat) : ((List.range k).filter (fun j => !G.dn ((j : Nat) : Int))).length ≤ k := by
  have := List.length_filter_le (fun j : Nat => !G.dn ((j : Nat) : Int)) (List.range k)
  rw [List.length_range] at this
  exact this
set_option maxRecDepth 100000 in
set_option maxHeartbeats 4000000 in
theorem rleft_any (h : RgAt F w r v G) : Calls Try.prog 14 #[ptV r] w fun e w' => e = .returned (.int .i64 (cnt G : Nat)) ∧ w' = w := by
  obtain ⟨ao, cap, rfl, hn⟩ := h.slice
  have c0 := h.cell
  obtain ⟨n, hnn⟩ : ∃ n, n = G.n := ⟨_, rfl⟩
  have HA : Hid (0 < n → ∃ gb, ao = some ⟨gb, 0, none⟩ ∧ ∀ j : Nat, j < n → w.cell? ⟨gb, j * 3 + 2, none⟩ = some (.bool (G.dn j))) := Hid.mk (fun h0 => by
    obtain ⟨gb, cap', e, _, _, _, _, hc⟩ := h.at' (by omega)
    cases e
    exact ⟨gb, rfl, fun j hj => (hc j (by omega)).2.2⟩)
  rw [← hnn] at c0 hn
  have HR : Hid (cnt G = ((List.range n).filter (fun j => !G.dn ((j : Nat) : Int))).length) := Hid.mk (by rw [hnn]; rfl)
  obtain ⟨res, hres⟩ : ∃ res, res = cnt G := ⟨_, rfl⟩
  rw [← hres] at HR ⊢
  clear h hnn hres
  go_enter Try.func14, Try.ntmps14
  go_wp2
  go_loopw [3, 4] (fun sv kv wr => ∃ k s : Nat, kv = .int .i64 k ∧ sv = .int .i64 s ∧ Hid (wr = w ∧ k ≤ n ∧ s = ((List.range k).filter (fun j => !G.dn ((j : Nat) : Int))).length)) (fun _ kv _ => n - (Go.RowKit.intOf kv).toNat)
  case atStart => exact ⟨0, 0, rfl, rfl, Hid.mk ⟨rfl, Nat.zero_le _, rfl⟩⟩
  case round =>
    obtain ⟨k, s, rfl, rfl, HK⟩ := hrel
    obtain ⟨ew, hk1, hk2⟩ := HK.out
    subst ew
    have HS := Hid.mk hk2
    have HKN : Hid (k ≤ n) := Hid.mk hk1
    have HSL : Hid (s ≤ k) := Hid.mk (by rw [hk2]; exact cnt_lek G k)
    clear HK hk1 hk2
    by_cases hkl : (k : Int) < (n : Int)
    · have v1 : IntKind.i64.wrap ((k : Int) + 1) = ((k + 1 : Nat) : Int) := by rw [IntKind.wrap_i64]; omega
      have v2 : IntKind.i64.wrap ((s : Int) + 1) = ((s + 1 : Nat) : Int) := by have := HSL.out; rw [IntKind.wrap_i64]; omega
      have HKL : Hid (k < n) := Hid.mk (by omega)
      obtain ⟨gb, rfl, hc⟩ := HA.out (by omega)
      have q1 := hc k HKL.out
      have k0 : (0 : Int) ≤ ((k : Nat) : Int) := by omega
      have e9 : (⟨gb, 0, none⟩ : Addr).add (k * 3) = ⟨gb, k * 3, none⟩ := by rw [add_at]; simp
      have HT := Hid.mk (cnt_take G k)
      cases hd : G.dn (k : Nat) with
      | true =>
        rw [hd] at q1
        have HT2 : Hid (s = ((List.range (k + 1)).filter (fun j => !G.dn ((j : Nat) : Int))).length) := Hid.mk (by rw [HT.out, ← HS.out, hd]; rfl)
        clear hc hd HT
        go_wp2
        go_roundw
        case rel => exact ⟨k + 1, s, rfl, rfl, Hid.mk ⟨trivial, HKL.out, HT2.out⟩⟩
        case measure => (have := HKL.out; simp [Go.RowKit.intOf]; omega)
      | false =>
        rw [hd] at q1
        have HT2 : Hid (s + 1 = ((List.range (k + 1)).filter (fun j => !G.dn ((j : Nat) : Int))).length) := Hid.mk (by rw [HT.out, ← HS.out, hd]; rfl)
        clear hc hd HT
        go_wp2
        go_roundw
        case rel => exact ⟨k + 1, s + 1, rfl, rfl, Hid.mk ⟨trivial, HKL.out, HT2.out⟩⟩
        case measure => (have := HKL.out; simp [Go.RowKit.intOf]; omega)
    · have HE : Hid (s = res) := Hid.mk (by
        rw [HR.out, HS.out]
        have := HKN.out
        rw [show k = n by omega])
      go_wp2
      go_ret
      exact ⟨congrArg (fun b : Nat => Ending.returned (.int .i64 (b : Nat))) HE.out, rfl⟩
end
end Go.Proofs.Ythmbhcmicebcpaa
