/-
  PathBounds: its walk.
-/
import Derived.Test.YtacmlidodgbgoaaPtJoins
namespace Go.Proofs.Ytacmlidodgbgoaa
open Go Go.Proofs Go.RowKit Go.Shelf

/-- So many n's. -/
def nnL (d : Nat) : List UInt8 := List.replicate d 110
theorem nnL_snoc (d : Nat) : nnL d ++ [110] = nnL (d + 1) := by unfold nnL; rw [List.replicate_succ']
def pathN (d m : Nat) : List UInt8 := catP (List.replicate m (nnL d))
theorem pathN_snoc (d m : Nat) : (pathN d m ++ [47]) ++ nnL d = pathN d (m + 1) := by
  unfold pathN
  rw [List.replicate_succ', catP_snoc]
theorem pathN_length (d m : Nat) : (pathN d m).length = m * (d + 1) := by
  unfold pathN catP nnL
  simp [List.sum_replicate_nat]
theorem nn_no (d : Nat) : (47 : UInt8) ∉ nnL d := by
  unfold nnL
  intro h
  have := List.eq_of_mem_replicate h
  exact absurd this (by decide)
theorem nn_may (d : Nat) (h : 1 ≤ d) : mayB (nnL d) = decide (d ≤ 27) := by
  unfold mayB
  have e1 : decide (nnL d = [46]) = false := decide_eq_false (fun e => by
    have : (46 : UInt8) ∈ nnL d := by rw [e]; simp
    exact absurd (List.eq_of_mem_replicate this) (by decide))
  have e2 : decide (nnL d = [46, 46]) = false := decide_eq_false (fun e => by
    have : (46 : UInt8) ∈ nnL d := by rw [e]; simp
    exact absurd (List.eq_of_mem_replicate this) (by decide))
  rw [e1, e2]
  have e3 : nm (mkS (nnL d)) = List.replicate d 110 := by
    unfold nm mkS nnL
    simp
  rw [e3]
  simp only [Bool.not_false, Bool.and_true, nameB]
  congr 1
  rw [eq_iff_iff]
  simp [List.mem_replicate]
  omega
theorem split_pathN (d m : Nat) (hd : 1 ≤ d) (hm : 1 ≤ m) : splitL (pathN d m) = if d ≤ 27 ∧ m * (d + 1) ≤ 500 then some (List.replicate m (nnL d)) else none := by
  have hne : List.replicate m (nnL d) ≠ [] := by
    intro e
    have := congrArg List.length e
    simp at this
    omega
  have hpn : pathN d m = 47 :: joinS (List.replicate m (nnL d)) := by
    unfold pathN
    rw [catP_join _ hne]
    rfl
  have hlen := pathN_length d m
  have hall : ∀ p ∈ List.replicate m (nnL d), p = nnL d := fun p hp => List.eq_of_mem_replicate hp
  have hpc : pieces (joinS (List.replicate m (nnL d))) = List.replicate m (nnL d) := pieces_join _ hne (fun p hp => by rw [hall p hp]; exact nn_no d)
  have hjne : joinS (List.replicate m (nnL d)) ≠ [] := by
    intro e
    rw [hpn, e] at hlen
    simp at hlen
    have h1 : 1 * (d + 1) ≤ m * (d + 1) := Nat.mul_le_mul_right _ hm
    omega
  rw [hpn] at hlen ⊢
  simp only [splitL]
  have hpl : partsL (joinS (List.replicate m (nnL d))) = List.replicate m (nnL d) := by unfold partsL; rw [if_neg hjne, hpc]
  rw [hpl]
  simp only [List.length_cons] at hlen
  have hal : (List.replicate m (nnL d)).all mayB = decide (d ≤ 27) := by
    rw [← nn_may d hd]
    cases hb : mayB (nnL d) with
    | true => exact List.all_eq_true.2 (fun p hp => by rw [hall p hp]; exact hb)
    | false =>
      rw [← Bool.not_eq_true, List.all_eq_true]
      intro h
      have := h (nnL d) (by simp [List.mem_replicate]; omega)
      rw [hb] at this
      cases this
  rw [hal]
  by_cases h1 : d ≤ 27 ∧ m * (d + 1) ≤ 500
  · rw [if_pos h1, if_pos ⟨trivial, by omega, decide_eq_true h1.1⟩]
  · rw [if_neg h1, if_neg]
    rintro ⟨_, h2, h3⟩
    exact h1 ⟨of_decide_eq_true h3, by omega⟩

set_option maxRecDepth 100000 in
set_option maxHeartbeats 4000000 in
theorem bounds_any (w : World) (name parts : Int) : Calls Try.prog 5 #[.int .i64 name, .int .i64 parts] w fun e w' => e = .returned (.bool true) ∧ Below w.heap.size w w' := by
  have HAL := Hid.mk (alive_any w)
  by_cases h1 : 1 ≤ name
  · by_cases h2 : name ≤ 40
    · by_cases h3 : 1 ≤ parts
      · by_cases h4 : parts ≤ 300
        · obtain ⟨d, rfl⟩ : ∃ d : Nat, name = d := ⟨name.toNat, by omega⟩
          obtain ⟨q, rfl⟩ : ∃ q : Nat, parts = q := ⟨parts.toNat, by omega⟩
          have HQ := Hid.mk (And.intro h1 (And.intro h2 (And.intro h3 h4)))
          go_enter Try.func5, Try.ntmps5
          go_wp2_with (go_at_call 7; refine HAL.out.mono ?_; rintro e W0 ⟨rfl, hw⟩; have HB0 := Hid.mk hw; clear hw)
          go_loopw [6, 7] (fun x i wr => ∃ k : Nat, x = .string (mkS (nnL k)) ∧ i = .int .i64 k ∧ k ≤ d ∧ wr = W0) (fun _ i _ => d - (intOf i).toNat)
          case atStart => exact ⟨0, rfl, rfl, Nat.zero_le _, rfl⟩
          case round =>
            obtain ⟨k, rfl, rfl, hk, rfl⟩ := hrel
            have hw1 : IntKind.i64.wrap ((k : Int) + 1) = (k : Int) + 1 := by rw [IntKind.wrap_i64]; omega
            by_cases hlt : k < d
            · have hi : (k : Int) < d := by omega
              have hsz : ¬ 9223372036854775807 < (mkS (nnL k)).size + 1 := by rw [mkS_size]; simp [nnL]; omega
              have HS : Hid (mkS (nnL k) ++ ⟨#[110]⟩ = mkS (nnL (k + 1))) := Hid.mk (by rw [← nnL_snoc, ← mkS_append]; rfl)
              generalize mkS (nnL k) = x at *
              go_wp2
              go_roundw
              case rel => exact ⟨k + 1, by rw [← HS.out], by go_num, by omega, trivial⟩
              case measure => simp [intOf]; omega
            · have hi : ¬ (k : Int) < d := by omega
              have hi2 : (d : Int) ≤ k := by omega
              obtain rfl : k = d := by omega
              go_wp2
              go_loopw [8, 9] (fun x i wr2 => ∃ m : Nat, x = .string (mkS (pathN k m)) ∧ i = .int .i64 m ∧ m ≤ q ∧ wr2 = wr) (fun _ i _ => q - (intOf i).toNat)
              case atStart => exact ⟨0, rfl, rfl, Nat.zero_le _, rfl⟩
              case round =>
                obtain ⟨m, rfl, rfl, hm, rfl⟩ := hrel
                have hw2 : IntKind.i64.wrap ((m : Int) + 1) = (m : Int) + 1 := by rw [IntKind.wrap_i64]; omega
                have HPL := Hid.mk (pathN_length k)
                by_cases hmq : m < q
                · have hi : (m : Int) < q := by omega
                  have hks : k ≤ 40 := by omega
                  have hb1 : m * (k + 1) ≤ 300 * 41 := Nat.mul_le_mul (by omega) (by omega)
                  have hb2 : (m + 1) * (k + 1) ≤ 301 * 41 := Nat.mul_le_mul (by omega) (by omega)
                  have hsz : ¬ 9223372036854775807 < (mkS (pathN k m)).size + 1 + (mkS (nnL k)).size := by
                    rw [mkS_size, mkS_size, HPL.out]
                    simp [nnL]
                    omega
                  have HS : Hid ((mkS (pathN k m) ++ ⟨#[47]⟩) ++ mkS (nnL k) = mkS (pathN k (m + 1))) := Hid.mk (by
                    rw [show (⟨#[47]⟩ : ByteArray) = mkS [47] from rfl, mkS_append, mkS_append, pathN_snoc])
                  have HSS : Hid ((mkS (pathN k (m + 1))).size = (m + 1) * (k + 1)) := Hid.mk (by rw [mkS_size, HPL.out])
                  obtain ⟨y, hy⟩ : ∃ y, y = mkS (pathN k (m + 1)) := ⟨_, rfl⟩
                  have HSA := Hid.mk (fun W => split_at W y (by rw [hy, HSS.out]; omega))
                  have hsp := split_pathN k (m + 1) (by omega) (by omega)
                  rw [show ofS y = pathN k (m + 1) by rw [hy, of_mk]] at HSA
                  rw [← hy] at HS HSS
                  have nz : (mkS (nnL k)).size = k := by rw [mkS_size]; simp [nnL]
                  have pz : (mkS (pathN k m)).size = m * (k + 1) := by rw [mkS_size, HPL.out]
                  have em : (m + 1) * (k + 1) = m * (k + 1) + (k + 1) := Nat.succ_mul _ _
                  by_cases hbig : (m + 1) * (k + 1) ≤ 2000
                  · have hyz : ((mkS (pathN k m)).size : Int) + 1 + ((mkS (nnL k)).size : Nat) ≤ 2000 := by
                      omega
                    clear HSA hsp nz pz em hb1 hb2 hbig HSS
                    generalize mkS (pathN k m) = x at *
                    generalize mkS (nnL k) = z at *
                    go_wp2
                    go_roundw
                    case rel => exact ⟨m + 1, by rw [HS.out, hy], by go_num, by omega, trivial⟩
                    case measure => simp [intOf]; omega
                  · rw [if_neg (by omega)] at hsp
                    rw [hsp, show (splL none).length = 0 from rfl, show splE none = 15 from rfl] at HSA
                    have hyz : (2000 : Int) < ((mkS (pathN k m)).size : Int) + 1 + ((mkS (nnL k)).size : Nat) := by
                      omega
                    have hyz2 : ¬ ((mkS (pathN k m)).size : Int) + 1 + ((mkS (nnL k)).size : Nat) ≤ 500 := by omega
                    have hyz3 : (500 : Int) < ((mkS (pathN k m)).size : Int) + 1 + ((mkS (nnL k)).size : Nat) := by omega
                    have hdec : decide (((mkS (pathN k m)).size : Int) + 1 + ((mkS (nnL k)).size : Nat) ≤ 500) = false := decide_eq_false hyz2
                    rw [← HS.out] at HSA
                    clear HS hy HSS hsp nz pz em hb1 hb2 hbig
                    generalize mkS (pathN k m) = x at *
                    generalize mkS (nnL k) = z at *
                    by_cases hk27 : (k : Int) ≤ 27
                    · go_wp2_with (first
                        | (go_at_call 8; refine (HSA.out _).mono ?_; rintro e W3 ⟨aL, cL, rfl, HL⟩; have HB3 := Hid.mk (HB0.out.trans (HL.out.2.2.2.mono HB0.out.size)); clear HL)
                        | (go_at_call 10; refine (num_any _ _).mono ?_; rintro e w'' ⟨rfl, hw⟩; subst w''))
                      go_ret
                      exact ⟨rfl, HB3.out⟩
                    · go_wp2_with (first
                        | (go_at_call 8; refine (HSA.out _).mono ?_; rintro e W3 ⟨aL, cL, rfl, HL⟩; have HB3 := Hid.mk (HB0.out.trans (HL.out.2.2.2.mono HB0.out.size)); clear HL)
                        | (go_at_call 10; refine (num_any _ _).mono ?_; rintro e w'' ⟨rfl, hw⟩; subst w''))
                      go_ret
                      exact ⟨rfl, HB3.out⟩
                · have hi : ¬ (m : Int) < q := by omega
                  have hi2 : (q : Int) ≤ m := by omega
                  obtain rfl : m = q := by omega
                  have hb1 : m * (k + 1) ≤ 300 * 41 := Nat.mul_le_mul (by omega) (by omega)
                  obtain ⟨y, hy⟩ : ∃ y, y = mkS (pathN k m) := ⟨_, rfl⟩
                  have hyz : y.size = m * (k + 1) := by rw [hy, mkS_size, HPL.out]
                  have HSA := Hid.mk (fun W => split_at W y (by omega))
                  have hsp := split_pathN k m (by omega) (by omega)
                  rw [show ofS y = pathN k m by rw [hy, of_mk]] at HSA
                  rw [← hy]
                  by_cases hk27 : k ≤ 27
                  · have hk27' : (k : Int) ≤ 27 := by omega
                    by_cases h5 : m * (k + 1) ≤ 500
                    · have h5' : (y.size : Int) ≤ 500 := by rw [hyz]; omega
                      rw [if_pos ⟨hk27, h5⟩] at hsp
                      rw [hsp, show (splL (some (List.replicate m (nnL k)))).length = m by simp [splL], show splE (some (List.replicate m (nnL k))) = 0 from rfl] at HSA
                      clear hy hyz hsp hb1 h5
                      go_wp2_with (first
                        | (go_at_call 8; refine (HSA.out _).mono ?_; rintro e W3 ⟨aL, cL, rfl, HL⟩; have HB3 := Hid.mk (HB0.out.trans (HL.out.2.2.2.mono HB0.out.size)); clear HL)
                        | (go_at_call 10; refine (num_any _ _).mono ?_; rintro e w'' ⟨rfl, hw⟩; subst w''))
                      go_ret
                      exact ⟨rfl, HB3.out⟩
                    · have h5' : (500 : Int) < y.size := by rw [hyz]; omega
                      have hdec : decide ((y.size : Int) ≤ 500) = false := decide_eq_false (by omega)
                      rw [if_neg (by omega)] at hsp
                      rw [hsp, show (splL none).length = 0 from rfl, show splE none = 15 from rfl] at HSA
                      clear hy hyz hsp hb1 h5
                      go_wp2_with (first
                        | (go_at_call 8; refine (HSA.out _).mono ?_; rintro e W3 ⟨aL, cL, rfl, HL⟩; have HB3 := Hid.mk (HB0.out.trans (HL.out.2.2.2.mono HB0.out.size)); clear HL)
                        | (go_at_call 10; refine (num_any _ _).mono ?_; rintro e w'' ⟨rfl, hw⟩; subst w''))
                      go_ret
                      exact ⟨rfl, HB3.out⟩
                  · have hk27' : ¬ (k : Int) ≤ 27 := by omega
                    have hk27'' : (27 : Int) < k := by omega
                    rw [if_neg (by omega)] at hsp
                    rw [hsp, show (splL none).length = 0 from rfl, show splE none = 15 from rfl] at HSA
                    clear hy hyz hsp hb1
                    go_wp2_with (first
                      | (go_at_call 8; refine (HSA.out _).mono ?_; rintro e W3 ⟨aL, cL, rfl, HL⟩; have HB3 := Hid.mk (HB0.out.trans (HL.out.2.2.2.mono HB0.out.size)); clear HL)
                      | (go_at_call 10; refine (num_any _ _).mono ?_; rintro e w'' ⟨rfl, hw⟩; subst w''))
                    go_ret
                    exact ⟨rfl, HB3.out⟩
        · have hn : 300 < parts := by omega
          go_enter Try.func5, Try.ntmps5
          go_wp2_with (go_at_call 7; refine HAL.out.mono ?_; rintro e W0 ⟨rfl, hw⟩; have HB0 := Hid.mk hw; clear hw)
          go_ret
          exact ⟨rfl, HB0.out⟩
      · have hn : parts < 1 := by omega
        go_enter Try.func5, Try.ntmps5
        go_wp2_with (go_at_call 7; refine HAL.out.mono ?_; rintro e W0 ⟨rfl, hw⟩; have HB0 := Hid.mk hw; clear hw)
        go_ret
        exact ⟨rfl, HB0.out⟩
    · have hn : 40 < name := by omega
      go_enter Try.func5, Try.ntmps5
      go_wp2_with (go_at_call 7; refine HAL.out.mono ?_; rintro e W0 ⟨rfl, hw⟩; have HB0 := Hid.mk hw; clear hw)
      go_ret
      exact ⟨rfl, HB0.out⟩
  · have hn : name < 1 := by omega
    go_enter Try.func5, Try.ntmps5
    go_wp2_with (go_at_call 7; refine HAL.out.mono ?_; rintro e W0 ⟨rfl, hw⟩; have HB0 := Hid.mk hw; clear hw)
    go_ret
    exact ⟨rfl, HB0.out⟩
end Go.Proofs.Ytacmlidodgbgoaa
