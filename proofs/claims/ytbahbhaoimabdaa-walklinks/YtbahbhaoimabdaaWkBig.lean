/-
  Whether nodes are too many: some answer.
-/
import Derived.Test.YtbahbhaoimabdaaWkRef
namespace Go.Proofs.Ytbahbhaoimabdaa
open Go Go.Proofs Go.RowKit Go.Shelf

def bigIn (x : NoV) : Bool := (List.range (min x.sn 500)).any (fun k => decide (1000 < (x.E k).nm.size)) || (List.range (min x.bn 500)).any (fun k => decide (2000 < (x.P k).m))
def bigGo (N : Nat → NoV) : Nat → Nat → Int → Bool
  | 0, _, s => decide (500 < s)
  | f + 1, k, s => if s ≤ 500 then (if bigIn (N k) = true then true else bigGo N f (k + 1) (wrap64 (wrap64 (s + ((N k).sn : Int)) + ((N k).bn : Int)))) else true
/-- Are nodes too many? -/
def bigB (n : Nat) (N : Nat → NoV) : Bool := bigGo N n 0 n
theorem bigGo_in {N : Nat → NoV} {n k : Nat} {s : Int} (hk : k < n) (hs : s ≤ 500) (hb : bigIn (N k) = true) : bigGo N (n - k) k s = true := by
  obtain ⟨f, hf⟩ : ∃ f, n - k = f + 1 := ⟨n - k - 1, by omega⟩
  rw [hf, bigGo, if_pos hs, if_pos hb]
theorem bigGo_next {N : Nat → NoV} {n k : Nat} {s : Int} (hk : k < n) (hs : s ≤ 500) (hb : bigIn (N k) = false) : bigGo N (n - k) k s = bigGo N (n - (k + 1)) (k + 1) (wrap64 (wrap64 (s + ((N k).sn : Int)) + ((N k).bn : Int))) := by
  obtain ⟨f, hf⟩ : ∃ f, n - k = f + 1 := ⟨n - k - 1, by omega⟩
  rw [hf, show n - (k + 1) = f by omega, bigGo, if_pos hs, if_neg (by rw [hb]; decide)]
theorem bigGo_out {N : Nat → NoV} {f k : Nat} {s : Int} (hs : ¬ s ≤ 500) : bigGo N f k s = true := by
  cases f with
  | zero => rw [bigGo]; exact decide_eq_true (by omega)
  | succ f => rw [bigGo, if_neg hs]
theorem bigGo_end {N : Nat → NoV} {n k : Nat} {s : Int} (hk : n ≤ k) : bigGo N (n - k) k s = decide (500 < s) := by
  rw [show n - k = 0 by omega, bigGo]
theorem bigIn_slot {x : NoV} {j : Nat} (hj : j < x.sn) (h5 : j < 500) (h : 1000 < (x.E j).nm.size) : bigIn x = true := by
  unfold bigIn
  rw [List.any_eq_true.2 ⟨j, List.mem_range.2 (by omega), decide_eq_true h⟩]
  rfl
theorem bigIn_part {x : NoV} {j : Nat} (hj : j < x.bn) (h5 : j < 500) (h : 2000 < (x.P j).m) : bigIn x = true := by
  unfold bigIn
  rw [Bool.or_eq_true]
  exact .inr (List.any_eq_true.2 ⟨j, List.mem_range.2 (by omega), decide_eq_true h⟩)
theorem bigIn_no {x : NoV} {a b : Nat} (ha : x.sn ≤ a ∨ 500 ≤ a) (hb : x.bn ≤ b ∨ 500 ≤ b) (h1 : ∀ j, j < a → ¬ 1000 < (x.E j).nm.size) (h2 : ∀ j, j < b → ¬ 2000 < (x.P j).m) : bigIn x = false := by
  unfold bigIn
  rw [Bool.or_eq_false_iff]
  constructor
  · rw [List.any_eq_false]
    intro j hj
    have := List.mem_range.1 hj
    simpa using h1 j (by omega)
  · rw [List.any_eq_false]
    intro j hj
    have := List.mem_range.1 hj
    simpa using h2 j (by omega)
set_option maxRecDepth 100000 in
set_option maxHeartbeats 4000000 in
theorem big_any (w : World) (ao : Option Addr) (n cc : Nat) (N : Nat → NoV) (hN : NoAt w ao n N) (hn : n ≤ 9223372036854775807) : Calls Try.prog 10 #[.slice ao n cc] w fun e w' => e = .returned (.bool (bigB n N)) ∧ Below w.heap.size w w' := by
  have HN := Hid.mk hN
  have HL := Hid.mk hn
  clear hN hn
  go_enter Try.func10, Try.ntmps10
  go_wp2
  go_loopw [3, 4] (fun sv kv wr => ∃ (k q : Nat) (s : Int), kv = .int .i64 k ∧ sv = .int .i64 s ∧ wr = w.drewN q ∧ Hid (k ≤ n ∧ bigGo N (n - k) k s = bigB n N)) (fun _ kv _ => n - (Go.RowKit.intOf kv).toNat)
  case atStart => exact ⟨0, 0, n, rfl, rfl, rfl, Hid.mk ⟨Nat.zero_le _, rfl⟩⟩
  case round =>
    obtain ⟨k, q, s, rfl, rfl, rfl, HK⟩ := hrel
    by_cases hkl : (k : Int) < (n : Int)
    · by_cases hs : s ≤ 500
      · have hk : k < n := by omega
        obtain ⟨f1, o1, rfl, he1, ⟨z0, z1, z2, z3, z4, z5⟩, hp1, hs1, hw1⟩ := no_at HN.out hk
        have hw6 : IntKind.i64.wrap ((k : Int) + 1) = ((k + 1 : Nat) : Int) := by have := HL.out; rw [IntKind.wrap_i64]; omega
        have HKL := Hid.mk hk
        clear hk z0 z1 z2 z3 he1 hw1
        have HS := Hid.mk hs
        generalize hNk : N k = v1 at *
        have HNK := Hid.mk hNk
        clear hNk
        obtain ⟨a0, a1, a2, a3, a4, n4, c4, P, a5, n5, c5, E⟩ := v1
        dsimp only at z4 z5 hp1 hs1
        have HP := Hid.mk hp1
        have HE := Hid.mk hs1
        clear hp1 hs1
        go_upto_region 5 with fail
        go_quiet (fail)
        clear hs
        obtain ⟨s2, hs2⟩ : ∃ s2, wrap64 (wrap64 (s + (n5 : Int)) + (n4 : Int)) = s2 := ⟨_, rfl⟩
        rw [hs2]
        have HS2 := Hid.mk hs2
        clear hs2
        clear hkl
        go_wp2
        go_loopw [5] (fun kv wr2 => ∃ k2 k2q : Nat, kv = .int .i64 k2 ∧ wr2 = w.drewN k2q ∧ Hid (k2 ≤ n5 ∧ ∀ j, j < k2 → ¬ 1000 < (E j).nm.size)) (fun kv _ => n5 - (Go.RowKit.intOf kv).toNat)
        case atStart => exact ⟨0, q + nq, rfl, by first | rfl | simp, Hid.mk ⟨Nat.zero_le _, fun j hj => absurd hj (Nat.not_lt_zero j)⟩⟩
        case round =>
          obtain ⟨k2, k2q, rfl, rfl, Hk2⟩ := hrel
          by_cases h1 : (k2 : Int) < (n5 : Int)
          · by_cases h2 : (k2 : Int) < 500
            · have hk2 : k2 < n5 := by omega
              obtain ⟨e2, o2, rfl, -, hc2⟩ := HE.out (by omega)
              obtain ⟨-, u1⟩ := hc2 k2 hk2
              clear hc2
              generalize hnm : (E k2).nm = nm at *
              have HNM := Hid.mk hnm
              clear hnm
              have HK2 := Hid.mk hk2
              have H25 : Hid (k2 < 500) := Hid.mk (by omega)
              have hw5 : IntKind.i64.wrap ((k2 : Int) + 1) = ((k2 + 1 : Nat) : Int) := by rw [IntKind.wrap_i64]; omega
              clear hk2
              by_cases h3 : (1000 : Int) < (nm.size : Int)
              · have H3 : Hid (1000 < nm.size) := Hid.mk (by omega)
                go_wp2
                go_ret
                exact ⟨by rw [← HK.out.2, bigGo_in HKL.out HS.out (by rw [HNK.out]; exact bigIn_slot (j := k2) HK2.out H25.out (by show 1000 < (E k2).nm.size; rw [HNM.out]; exact H3.out))]; rfl, blw_drewN (Below.refl _ w) _⟩
              · have H3 : Hid (¬ 1000 < nm.size) := Hid.mk (by omega)
                go_wp2
                go_roundw
                case rel => exact ⟨k2 + 1, _, by go_num, rfl, Hid.mk ⟨HK2.out, fun j hj => by
                  rcases Nat.lt_or_ge j k2 with h | h
                  · exact Hk2.out.2 j h
                  · obtain rfl : j = k2 := by omega
                    rw [HNM.out]; exact H3.out⟩⟩
                case measure => have := HK2.out; simp [Go.RowKit.intOf]; omega
            · have HAk2 : Hid (n5 ≤ k2 ∨ 500 ≤ k2) := Hid.mk (by omega)
              go_wp2
              go_loopw [6] (fun kv wr2 => ∃ k3 k3q : Nat, kv = .int .i64 k3 ∧ wr2 = w.drewN k3q ∧ Hid (k3 ≤ n4 ∧ ∀ j, j < k3 → ¬ 2000 < (P j).m)) (fun kv _ => n4 - (Go.RowKit.intOf kv).toNat)
              case atStart => exact ⟨0, k2q, rfl, by first | rfl | simp, Hid.mk ⟨Nat.zero_le _, fun j hj => absurd hj (Nat.not_lt_zero j)⟩⟩
              case round =>
                obtain ⟨k3, k3q, rfl, rfl, Hk3⟩ := hrel
                by_cases h1 : (k3 : Int) < (n4 : Int)
                · by_cases h2 : (k3 : Int) < 500
                  · have hk2 : k3 < n4 := by omega
                    obtain ⟨e3, o3, rfl, -, hc2⟩ := HP.out (by omega)
                    obtain ⟨⟨-, u1⟩, -⟩ := hc2 k3 hk2
                    clear hc2
                    generalize (P k3).ao = ta at *
                    generalize hnm : (P k3).m = tm at *
                    have HNM := Hid.mk hnm
                    clear hnm
                    generalize (P k3).cc = tc at *
                    have HK2 := Hid.mk hk2
                    have H25 : Hid (k3 < 500) := Hid.mk (by omega)
                    have hw5 : IntKind.i64.wrap ((k3 : Int) + 1) = ((k3 + 1 : Nat) : Int) := by rw [IntKind.wrap_i64]; omega
                    clear hk2
                    by_cases h3 : (2000 : Int) < (tm : Int)
                    · have H3 : Hid (2000 < tm) := Hid.mk (by omega)
                      go_wp2
                      go_ret
                      exact ⟨by rw [← HK.out.2, bigGo_in HKL.out HS.out (by rw [HNK.out]; exact bigIn_part (j := k3) HK2.out H25.out (by show 2000 < (P k3).m; rw [HNM.out]; exact H3.out))]; rfl, blw_drewN (Below.refl _ w) _⟩
                    · have H3 : Hid (¬ 2000 < tm) := Hid.mk (by omega)
                      go_wp2
                      go_roundw
                      case rel => exact ⟨k3 + 1, _, by go_num, rfl, Hid.mk ⟨HK2.out, fun j hj => by
                        rcases Nat.lt_or_ge j k3 with h | h
                        · exact Hk3.out.2 j h
                        · obtain rfl : j = k3 := by omega
                          rw [HNM.out]; exact H3.out⟩⟩
                      case measure => have := HK2.out; simp [Go.RowKit.intOf]; omega
                  · have HAk3 : Hid (n4 ≤ k3 ∨ 500 ≤ k3) := Hid.mk (by omega)
                    go_wp2
                    go_wp2
                    go_roundw
                    case rel => exact ⟨k + 1, _, s2, by go_num, rfl, rfl, Hid.mk ⟨HKL.out, by rw [← HK.out.2, bigGo_next HKL.out HS.out (by rw [HNK.out]; exact bigIn_no HAk2.out HAk3.out Hk2.out.2 Hk3.out.2), HNK.out]; dsimp only; rw [HS2.out]⟩⟩
                    case measure => have := HKL.out; simp [Go.RowKit.intOf]; omega
                · have HAk3 : Hid (n4 ≤ k3 ∨ 500 ≤ k3) := Hid.mk (by omega)
                  go_wp2
                  go_wp2
                  go_roundw
                  case rel => exact ⟨k + 1, _, s2, by go_num, rfl, rfl, Hid.mk ⟨HKL.out, by rw [← HK.out.2, bigGo_next HKL.out HS.out (by rw [HNK.out]; exact bigIn_no HAk2.out HAk3.out Hk2.out.2 Hk3.out.2), HNK.out]; dsimp only; rw [HS2.out]⟩⟩
                  case measure => have := HKL.out; simp [Go.RowKit.intOf]; omega
          · have HAk2 : Hid (n5 ≤ k2 ∨ 500 ≤ k2) := Hid.mk (by omega)
            go_wp2
            go_loopw [6] (fun kv wr2 => ∃ k3 k3q : Nat, kv = .int .i64 k3 ∧ wr2 = w.drewN k3q ∧ Hid (k3 ≤ n4 ∧ ∀ j, j < k3 → ¬ 2000 < (P j).m)) (fun kv _ => n4 - (Go.RowKit.intOf kv).toNat)
            case atStart => exact ⟨0, k2q, rfl, by first | rfl | simp, Hid.mk ⟨Nat.zero_le _, fun j hj => absurd hj (Nat.not_lt_zero j)⟩⟩
            case round =>
              obtain ⟨k3, k3q, rfl, rfl, Hk3⟩ := hrel
              by_cases h1 : (k3 : Int) < (n4 : Int)
              · by_cases h2 : (k3 : Int) < 500
                · have hk2 : k3 < n4 := by omega
                  obtain ⟨e3, o3, rfl, -, hc2⟩ := HP.out (by omega)
                  obtain ⟨⟨-, u1⟩, -⟩ := hc2 k3 hk2
                  clear hc2
                  generalize (P k3).ao = ta at *
                  generalize hnm : (P k3).m = tm at *
                  have HNM := Hid.mk hnm
                  clear hnm
                  generalize (P k3).cc = tc at *
                  have HK2 := Hid.mk hk2
                  have H25 : Hid (k3 < 500) := Hid.mk (by omega)
                  have hw5 : IntKind.i64.wrap ((k3 : Int) + 1) = ((k3 + 1 : Nat) : Int) := by rw [IntKind.wrap_i64]; omega
                  clear hk2
                  by_cases h3 : (2000 : Int) < (tm : Int)
                  · have H3 : Hid (2000 < tm) := Hid.mk (by omega)
                    go_wp2
                    go_ret
                    exact ⟨by rw [← HK.out.2, bigGo_in HKL.out HS.out (by rw [HNK.out]; exact bigIn_part (j := k3) HK2.out H25.out (by show 2000 < (P k3).m; rw [HNM.out]; exact H3.out))]; rfl, blw_drewN (Below.refl _ w) _⟩
                  · have H3 : Hid (¬ 2000 < tm) := Hid.mk (by omega)
                    go_wp2
                    go_roundw
                    case rel => exact ⟨k3 + 1, _, by go_num, rfl, Hid.mk ⟨HK2.out, fun j hj => by
                      rcases Nat.lt_or_ge j k3 with h | h
                      · exact Hk3.out.2 j h
                      · obtain rfl : j = k3 := by omega
                        rw [HNM.out]; exact H3.out⟩⟩
                    case measure => have := HK2.out; simp [Go.RowKit.intOf]; omega
                · have HAk3 : Hid (n4 ≤ k3 ∨ 500 ≤ k3) := Hid.mk (by omega)
                  go_wp2
                  go_wp2
                  go_roundw
                  case rel => exact ⟨k + 1, _, s2, by go_num, rfl, rfl, Hid.mk ⟨HKL.out, by rw [← HK.out.2, bigGo_next HKL.out HS.out (by rw [HNK.out]; exact bigIn_no HAk2.out HAk3.out Hk2.out.2 Hk3.out.2), HNK.out]; dsimp only; rw [HS2.out]⟩⟩
                  case measure => have := HKL.out; simp [Go.RowKit.intOf]; omega
              · have HAk3 : Hid (n4 ≤ k3 ∨ 500 ≤ k3) := Hid.mk (by omega)
                go_wp2
                go_wp2
                go_roundw
                case rel => exact ⟨k + 1, _, s2, by go_num, rfl, rfl, Hid.mk ⟨HKL.out, by rw [← HK.out.2, bigGo_next HKL.out HS.out (by rw [HNK.out]; exact bigIn_no HAk2.out HAk3.out Hk2.out.2 Hk3.out.2), HNK.out]; dsimp only; rw [HS2.out]⟩⟩
                case measure => have := HKL.out; simp [Go.RowKit.intOf]; omega
      · have hs2 : (500 : Int) < s := by omega
        go_wp2
        go_ret
        exact ⟨by rw [← HK.out.2, bigGo_out (by omega)]; rfl, blw_drewN (Below.refl _ w) _⟩
    · go_wp2
      go_ret
      exact ⟨by rw [← HK.out.2, bigGo_end (by omega)]; rfl, blw_drewN (Below.refl _ w) _⟩
end Go.Proofs.Ytbahbhaoimabdaa
