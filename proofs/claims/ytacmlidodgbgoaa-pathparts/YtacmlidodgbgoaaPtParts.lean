/-
  PathParts: its walk.
-/
import Derived.Test.YtacmlidodgbgoaaPtBounds
namespace Go.Proofs.Ytacmlidodgbgoaa
open Go Go.Proofs Go.RowKit Go.Shelf

/-- A path's parts, where they are as many as what it was made of, are these. -/
theorem parts_back (L A : List (List UInt8)) (h : splitL (joinP L) = some A) (hl : A.length = L.length) : A = L := by
  unfold joinP at h
  simp only [splitL] at h
  split at h
  · cases h
    unfold partsL at hl ⊢
    by_cases h0 : L = []
    · subst h0; rfl
    · split at hl
      · rename_i he
        have : L.length = 0 := by simpa using hl.symm
        exact absurd (List.length_eq_zero_iff.1 this) h0
      · rename_i he
        rw [if_neg he]
        exact (pieces_join_ge L h0).2 hl
  · cases h
/-- The path with one part more. -/
def moreP (L : List (List UInt8)) (m : List UInt8) : List UInt8 := if L = [] then 47 :: m else (joinP L ++ [47]) ++ m
theorem more_split (L B : List (List UInt8)) (m : List UInt8) (hne : L = [] → m ≠ []) (hA : splitL (joinP L) = some L) (hB : splitL (moreP L m) = some B) : ∃ P, B = L ++ P ∧ 1 ≤ P.length := by
  by_cases h0 : L = []
  · subst h0
    have hm := hne rfl
    unfold moreP at hB
    rw [if_pos rfl] at hB
    simp only [splitL] at hB
    split at hB
    · cases hB
      refine ⟨partsL m, rfl, ?_⟩
      unfold partsL
      rw [if_neg hm]
      obtain ⟨h, t, e⟩ := pieces_cons m
      rw [e]; simp
    · cases hB
  · have hp : pieces (joinS L) = L := by
      unfold joinP at hA
      simp only [splitL] at hA
      split at hA
      · have hA2 := Option.some.inj hA
        unfold partsL at hA2
        split at hA2
        · exact absurd hA2.symm h0
        · exact hA2
      · cases hA
    unfold moreP at hB
    rw [if_neg h0] at hB
    have e : (joinP L ++ [47]) ++ m = 47 :: (joinS L ++ 47 :: m) := by unfold joinP; simp
    rw [e] at hB
    simp only [splitL] at hB
    split at hB
    · cases hB
      refine ⟨pieces m, ?_, ?_⟩
      · unfold partsL
        rw [if_neg (by simp), pieces_slash, hp]
      · obtain ⟨h, t, e⟩ := pieces_cons m
        rw [e]; simp
    · cases hB
theorem ofS_app (s t : ByteArray) : ofS (s ++ t) = ofS s ++ ofS t := by
  have e : s ++ t = mkS (ofS s) ++ mkS (ofS t) := by rw [mk_of, mk_of]
  rw [e, mkS_append, of_mk]
theorem more_of (L : List (List UInt8)) (s mo : ByteArray) (hs : s = mkS (joinP L)) (h : L ≠ []) : ofS ((s ++ ⟨#[47]⟩) ++ mo) = moreP L (ofS mo) := by
  rw [ofS_app, ofS_app, hs, of_mk]
  unfold moreP
  rw [if_neg h]
  rfl
theorem more_of0 (L : List (List UInt8)) (mo : ByteArray) (h : L = []) : ofS (⟨#[47]⟩ ++ mo) = moreP L (ofS mo) := by
  rw [ofS_app]
  unfold moreP
  rw [if_pos h]
  rfl
theorem getD_append (L P : List (List UInt8)) (k : Nat) (h : k < L.length) : (L ++ P).getD k [] = L.getD k [] := by
  simp [List.getD, List.getElem?_append_left h]

set_option maxRecDepth 100000 in
set_option maxHeartbeats 4000000 in
theorem pparts_any (w : World) (ao : Option Addr) (n c : Nat) (L : List (List UInt8)) (mo : ByteArray) (hL : SAt w ao n L) (hn : n ≤ 9223372036854775807) (hc : n ≤ c) (hmo : mo.size ≤ 9223372036854775807) : Calls Try.prog 6 #[.slice ao n c, .string mo] w fun e w' => e = .returned (.bool true) ∧ Below w.heap.size w w' := by
  have HAL := Hid.mk (alive_any w)
  by_cases h1 : n ≤ 20
  · by_cases hm : mo.size ≤ 100
    · have hi1 : (n : Int) ≤ 20 := by omega
      have him : (mo.size : Int) ≤ 100 := by omega
      have HLW : Hid (∀ W, Below w.heap.size w W → SAt W ao n L) := Hid.mk (fun W h => hL.below h)
      have HLL := Hid.mk hL.1
      clear hL hn hmo
      go_enter Try.func6, Try.ntmps6
      go_wp2_with (go_at_call 7; refine HAL.out.mono ?_; rintro e W0 ⟨rfl, hw⟩; have HB0 := Hid.mk hw; clear hw)
      go_loopw [6, 7] (fun x i wr => ∃ k m : Nat, x = .int .i64 m ∧ i = .int .i64 k ∧ k ≤ n ∧ m ≤ k * 100 ∧ wr = W0 ∧ Hid (∀ j, j < k → (L.getD j []).length ≤ 100)) (fun _ i _ => n - (intOf i).toNat)
      case atStart => exact ⟨0, 0, rfl, rfl, Nat.zero_le _, Nat.zero_le _, rfl, Hid.mk (fun j hj => by omega)⟩
      case round =>
        obtain ⟨k, m, rfl, rfl, hk, hm2, rfl, HA⟩ := hrel
        have hw1 : IntKind.i64.wrap ((k : Int) + 1) = (k : Int) + 1 := by rw [IntKind.wrap_i64]; omega
        by_cases hlt : k < n
        · have hi : (k : Int) < n := by omega
          obtain ⟨a', rfl, c1⟩ := (HLW.out _ HB0.out).at k hlt
          unfold strV at c1
          have HSZ := Hid.mk (mkS_size (L.getD k []))
          by_cases h5 : (L.getD k []).length ≤ 100
          · have h5' : ((mkS (L.getD k [])).size : Int) ≤ 100 := by rw [HSZ.out]; omega
            have hw2 : IntKind.i64.wrap ((m : Int) + ((mkS (L.getD k [])).size : Nat)) = (m : Int) + ((mkS (L.getD k [])).size : Nat) := by rw [IntKind.wrap_i64]; omega
            have HA2 : Hid (∀ j, j < k + 1 → (L.getD j []).length ≤ 100) := Hid.mk (fun j hj => by
              rcases Nat.lt_or_ge j k with h | h
              · exact HA.out j h
              · obtain rfl : j = k := by omega
                exact h5)
            have HM : Hid (m + (mkS (L.getD k [])).size ≤ (k + 1) * 100) := Hid.mk (by rw [HSZ.out]; omega)
            clear h5 HSZ
            generalize mkS (L.getD k []) = x at *
            go_wp2
            go_roundw
            case rel => exact ⟨k + 1, m + x.size, by go_num, by go_num, by omega, HM.out, trivial, HA2⟩
            case measure => simp [intOf]; omega
          · have h5' : ¬ ((mkS (L.getD k [])).size : Int) ≤ 100 := by rw [HSZ.out]; omega
            have h5'' : (100 : Int) < (mkS (L.getD k [])).size := by rw [HSZ.out]; omega
            generalize mkS (L.getD k []) = x at *
            clear h5 HSZ
            go_wp2
            go_ret
            exact ⟨rfl, HB0.out⟩
        · have hi : ¬ (k : Int) < n := by omega
          have hi2 : (n : Int) ≤ k := by omega
          obtain rfl : k = n := by omega
          have hall : ∀ j, j < L.length → (L.getD j []).length ≤ 100 := fun j hj => HA.out j (by rw [← HLL.out]; exact hj)
          have hb1 := joinS_bound L 100 hall
          rw [HLL.out] at hb1
          have HJ : Hid (∀ W, Below w.heap.size w W → Calls Try.prog 12 #[.slice ao k c] W fun e w' => e = .returned (.string (mkS (joinP L))) ∧ Below W.heap.size W w') := Hid.mk (fun W h => join_any W ao k c L (HLW.out W h) (by omega) hc (by omega))
          have hjl : (joinP L).length ≤ 2021 := by unfold joinP; simp; omega
          have HSA := Hid.mk (fun W => split_at W (mkS (joinP L)) (by rw [mkS_size]; omega))
          rw [of_mk] at HSA
          have hnA : (splL (splitL (joinP L))).length ≤ 501 := split_len
          have HPB := Hid.mk (parts_back L)
          have HMS := Hid.mk (more_split L)
          have HJL := Hid.mk hjl
          have hss : ¬ 9223372036854775807 < (mkS (joinP L)).size + 1 + mo.size := by rw [mkS_size]; omega
          have hss2 : ¬ 9223372036854775807 < 1 + mo.size := by omega
          obtain ⟨s, hs⟩ : ∃ s, s = mkS (joinP L) := ⟨_, rfl⟩
          rw [← hs] at HJ HSA hss
          have HS := Hid.mk hs
          clear hs hjl hb1 hall HA
          cases hoS : splitL (joinP L) with
          | none =>
            rw [hoS, show (splL none).length = 0 from rfl, show splE none = 15 from rfl] at HSA
            clear hoS hnA
            go_wp2_with (first
              | (go_at_call 12; refine (HJ.out _ HB0.out).mono ?_; rintro e W1 ⟨rfl, hw⟩; have HB1 := Hid.mk (HB0.out.trans (hw.mono HB0.out.size)); clear hw)
              | (go_at_call 8; refine (HSA.out _).mono ?_; rintro e W2 ⟨aA, cA, rfl, HA⟩; have HB2 := Hid.mk (HB1.out.trans (HA.out.2.2.2.mono HB1.out.size)))
              | (go_at_call 10; refine (num_any _ _).mono ?_; rintro e w'' ⟨rfl, hw⟩; subst w''))
            go_ret
            exact ⟨rfl, HB2.out⟩
          | some A =>
            rw [hoS, show splL (some A) = A from rfl, show splE (some A) = 0 from rfl] at HSA
            rw [hoS, show splL (some A) = A from rfl] at hnA
            by_cases hAl : A.length = k
            · have hAL := HPB.out A hoS (by rw [hAl, HLL.out])
              subst hAL
              have HLA := Hid.mk hoS
              have HMZ : Hid ((moreP A (ofS mo)).length ≤ 16777216) := Hid.mk (by
                have h1 := HJL.out
                have h2 := ofS_length mo
                unfold moreP
                split
                · simp; omega
                · simp; omega)
              rw [hAl] at HSA hnA
              clear hoS hAl HPB
              by_cases hk0 : k = 0
              · have hkb : ((k : Int) == 0) = true := by simp; omega
                have HK0 := Hid.mk hk0
                have hL0 : A = [] := List.length_eq_zero_iff.1 (by rw [HLL.out, hk0])
                by_cases hm0 : mo.size = 0
                · have hem : mo.toList.isEmpty = true := by rw [nm_empty]; exact decide_eq_true hm0
                  have hmo0 : ofS mo = [] := List.length_eq_zero_iff.1 (by rw [ofS_length]; exact hm0)
                  have hts : (⟨#[47]⟩ ++ mo : ByteArray).size ≤ 16777216 := by
                    rw [← ofS_length, more_of0 A mo hL0]; exact HMZ.out
                  have HST := Hid.mk (fun W => split_at W (⟨#[47]⟩ ++ mo) hts)
                  rw [more_of0 A mo hL0, hmo0, show moreP A [] = [47] by unfold moreP; rw [if_pos hL0], show splitL [47] = some [] from rfl, show (splL (some ([] : List (List UInt8)))).length = 0 from rfl, show splE (some []) = 0 from rfl] at HST
                  clear hts hmo0 hL0 hk0
                  go_wp2_with (first
                    | (go_at_call 12; first | (refine (HJ.out _ HB0.out).mono ?_; clear HJ; rintro e W1 ⟨rfl, hw⟩; have HB1 := Hid.mk (HB0.out.trans (hw.mono HB0.out.size)); clear hw) | (refine (HJB.out _ _ _ HSB.out HCB.out).mono ?_; rintro e W4 ⟨rfl, hw⟩; have HB4 := Hid.mk hw; clear hw))
                    | (go_at_call 8; first | (refine (HSA.out _).mono ?_; clear HSA; rintro e W2 ⟨aA, cA, rfl, HA⟩; have HB2 := Hid.mk (HB1.out.trans (HA.out.2.2.2.mono HB1.out.size))) | (refine (HST.out _).mono ?_; rintro e W3 ⟨aB, cB, rfl, HB⟩; have HB3 := Hid.mk (HB2.out.trans (HB.out.2.2.2.mono HB2.out.size))))
                    | (go_at_call 10; refine (num_any _ _).mono ?_; rintro e w'' ⟨rfl, hw⟩; subst w''))
                  go_ret
                  exact ⟨rfl, HB3.out⟩
                · have hem : mo.toList.isEmpty = false := by rw [nm_empty]; exact decide_eq_false hm0
                  have HL0 := Hid.mk hL0
                  have HNE : Hid (A = [] → ofS mo ≠ []) := Hid.mk (fun _ e => hm0 (by rw [← ofS_length, e]; rfl))
                  clear hL0 hk0
                  have HOT : Hid (ofS (⟨#[47]⟩ ++ mo) = moreP A (ofS mo)) := Hid.mk (more_of0 A mo HL0.out)
                  have hts : (⟨#[47]⟩ ++ mo).size ≤ 16777216 := by rw [← ofS_length, HOT.out]; exact HMZ.out
                  have HST := Hid.mk (fun W => split_at W (⟨#[47]⟩ ++ mo) hts)
                  have HTE : Hid (mkS (moreP A (ofS mo)) = ⟨#[47]⟩ ++ mo) := Hid.mk (by rw [← HOT.out, mk_of])
                  rw [HOT.out] at HST
                  clear hts HOT
                  cases hoT : splitL (moreP A (ofS mo)) with
                  | none =>
                    rw [hoT, show (splL none).length = 0 from rfl, show splE none = 15 from rfl] at HST
                    clear hoT
                    go_wp2_with (first
                      | (go_at_call 12; first | (refine (HJ.out _ HB0.out).mono ?_; clear HJ; rintro e W1 ⟨rfl, hw⟩; have HB1 := Hid.mk (HB0.out.trans (hw.mono HB0.out.size)); clear hw) | (refine (HJB.out _ _ _ HSB.out HCB.out).mono ?_; rintro e W4 ⟨rfl, hw⟩; have HB4 := Hid.mk hw; clear hw))
                      | (go_at_call 8; first | (refine (HSA.out _).mono ?_; clear HSA; rintro e W2 ⟨aA, cA, rfl, HA⟩; have HB2 := Hid.mk (HB1.out.trans (HA.out.2.2.2.mono HB1.out.size))) | (refine (HST.out _).mono ?_; rintro e W3 ⟨aB, cB, rfl, HB⟩; have HB3 := Hid.mk (HB2.out.trans (HB.out.2.2.2.mono HB2.out.size))))
                      | (go_at_call 10; refine (num_any _ _).mono ?_; rintro e w'' ⟨rfl, hw⟩; subst w''))
                    go_ret
                    exact ⟨rfl, HB3.out⟩
                  | some B =>
                    obtain ⟨P, hBP, hP1⟩ := HMS.out B (ofS mo) HNE.out HLA.out hoT
                    have hBl : (splL (splitL (moreP A (ofS mo)))).length ≤ 501 := split_len
                    rw [hoT, show splL (some B) = B from rfl] at hBl
                    rw [hoT, show splL (some B) = B from rfl, show splE (some B) = 0 from rfl] at HST
                    have hBL2 : B.length = k + P.length := by rw [hBP, List.length_append, HLL.out]
                    have HJB : Hid (∀ W aB cB, SAt W aB B.length B → B.length ≤ cB → Calls Try.prog 12 #[.slice aB B.length cB] W fun e w' => e = .returned (.string (⟨#[47]⟩ ++ mo)) ∧ Below W.heap.size W w') := Hid.mk (fun W aB cB h h2 => by
                      obtain ⟨e1, -, e2⟩ := split_some hoT
                      have := join_any W aB B.length cB B h (by omega) h2 (by rw [← e1] at e2; unfold joinP at e2; simp at e2; omega)
                      rw [e1] at this
                      unfold strV at this
                      rw [HTE.out] at this
                      exact this)
                    have HGD : Hid (∀ j, j < k → B.getD j [] = A.getD j []) := Hid.mk (fun j hj => by rw [hBP]; exact getD_append A P j (by rw [HLL.out]; exact hj))
                    clear hoT hBP HTE HNE HLA HMS
                    generalize hnB : B.length = nB at *
                    have hge : ¬ (nB : Int) < (k : Int) + 1 := by omega
                    have hge2 : (k : Int) + 1 ≤ nB := by omega
                    have HPN := Hid.mk (And.intro hnB (And.intro hBL2 hP1))
                    clear hnB hBL2 hP1
                    go_wp2_with (first
                      | (go_at_call 12; first | (refine (HJ.out _ HB0.out).mono ?_; clear HJ; rintro e W1 ⟨rfl, hw⟩; have HB1 := Hid.mk (HB0.out.trans (hw.mono HB0.out.size)); clear hw) | (refine (HJB.out _ _ _ HSB.out HCB.out).mono ?_; rintro e W4 ⟨rfl, hw⟩; have HB4 := Hid.mk hw; clear hw))
                      | (go_at_call 8; first | (refine (HSA.out _).mono ?_; clear HSA; rintro e W2 ⟨aA, cA, rfl, HA⟩; have HB2 := Hid.mk (HB1.out.trans (HA.out.2.2.2.mono HB1.out.size))) | (refine (HST.out _).mono ?_; rintro e W3 ⟨aB, cB, rfl, HB⟩; have HB3 := Hid.mk (HB2.out.trans (HB.out.2.2.2.mono HB2.out.size))))
                      | (go_at_call 10; refine (num_any _ _).mono ?_; rintro e w'' ⟨rfl, hw⟩; subst w''))
                    have HS3 : Hid (SAt W3 ao k A ∧ SAt W3 aA k A ∧ SAt W3 aB nB B) := Hid.mk ⟨HLW.out W3 HB3.out, HA.out.2.1.below HB.out.2.2.2, HB.out.2.1⟩
                    have HCB : Hid (nB ≤ cB) := Hid.mk HB.out.2.2.1
                    clear HA HB HST
                    go_loopw [14] (fun i wr3 => ∃ q : Nat, i = .int .i64 q ∧ q ≤ k ∧ Hid (Below W3.heap.size W3 wr3)) (fun i _ => k - (intOf i).toNat)
                    case atStart => exact ⟨0, rfl, Nat.zero_le _, Hid.mk (Below.refl _ _)⟩
                    case round =>
                      obtain ⟨q, rfl, hq, HBW⟩ := hrel
                      have hwq : IntKind.i64.wrap ((q : Int) + 1) = (q : Int) + 1 := by rw [IntKind.wrap_i64]; omega
                      obtain ⟨s1, s2, s3⟩ := HS3.out
                      have t1 := s1.below HBW.out
                      have t2 := s2.below HBW.out
                      have t3 := s3.below HBW.out
                      by_cases hlq : q < k
                      · have hiq : (q : Int) < k := by omega
                        have hqB : (q : Int) < nB := by omega
                        obtain ⟨a1, rfl, d1⟩ := t1.at q hlq
                        obtain ⟨a2, rfl, d2⟩ := t2.at q hlq
                        obtain ⟨a3, rfl, d3⟩ := t3.at q (by omega)
                        rw [HGD.out q hlq] at d3
                        unfold strV at d1 d2 d3
                        generalize mkS (A.getD q []) = x at *
                        clear s1 s2 s3 t1 t2 t3 HS3
                        go_wp2
                        go_quiet (fail)
                        go_wp2
                        go_roundw
                        case rel => exact ⟨q + 1, by go_num, by omega, Hid.mk (HBW.out.trans (below_drewN' _ _ _ HBW.out.size))⟩
                        case measure => simp [intOf]; omega
                      · have hiq : ¬ (q : Int) < k := by omega
                        have hiq2 : (k : Int) ≤ q := by omega
                        have HSB := Hid.mk t3
                        have HB5 := Hid.mk (HB3.out.trans (HBW.out.mono HB3.out.size))
                        clear s1 s2 s3 t1 t2 t3 HS3
                        go_wp2_with (go_at_call 12; refine (HJB.out _ _ _ HSB.out HCB.out).mono ?_; rintro e W4 ⟨rfl, hw⟩; have HB4 := Hid.mk hw; clear hw)
                        go_ret
                        exact ⟨rfl, HB5.out.trans (HB4.out.mono HB5.out.size)⟩
              · have hkb : ((k : Int) == 0) = false := by simp; omega
                have hkb2 : ¬ (k : Int) = 0 := by omega
                have hLn : A ≠ [] := fun e => hk0 (by rw [← HLL.out, e]; rfl)
                have HNE : Hid (A = [] → ofS mo ≠ []) := Hid.mk (fun e => absurd e hLn)
                have HLN := Hid.mk hLn
                clear hLn hk0
                have HOT : Hid (ofS ((s ++ ⟨#[47]⟩) ++ mo) = moreP A (ofS mo)) := Hid.mk (more_of A s mo HS.out HLN.out)
                have hts : ((s ++ ⟨#[47]⟩) ++ mo).size ≤ 16777216 := by rw [← ofS_length, HOT.out]; exact HMZ.out
                have HST := Hid.mk (fun W => split_at W ((s ++ ⟨#[47]⟩) ++ mo) hts)
                have HTE : Hid (mkS (moreP A (ofS mo)) = (s ++ ⟨#[47]⟩) ++ mo) := Hid.mk (by rw [← HOT.out, mk_of])
                rw [HOT.out] at HST
                clear hts HOT
                cases hoT : splitL (moreP A (ofS mo)) with
                | none =>
                  rw [hoT, show (splL none).length = 0 from rfl, show splE none = 15 from rfl] at HST
                  clear hoT
                  go_wp2_with (first
                    | (go_at_call 12; first | (refine (HJ.out _ HB0.out).mono ?_; clear HJ; rintro e W1 ⟨rfl, hw⟩; have HB1 := Hid.mk (HB0.out.trans (hw.mono HB0.out.size)); clear hw) | (refine (HJB.out _ _ _ HSB.out HCB.out).mono ?_; rintro e W4 ⟨rfl, hw⟩; have HB4 := Hid.mk hw; clear hw))
                    | (go_at_call 8; first | (refine (HSA.out _).mono ?_; clear HSA; rintro e W2 ⟨aA, cA, rfl, HA⟩; have HB2 := Hid.mk (HB1.out.trans (HA.out.2.2.2.mono HB1.out.size))) | (refine (HST.out _).mono ?_; rintro e W3 ⟨aB, cB, rfl, HB⟩; have HB3 := Hid.mk (HB2.out.trans (HB.out.2.2.2.mono HB2.out.size))))
                    | (go_at_call 10; refine (num_any _ _).mono ?_; rintro e w'' ⟨rfl, hw⟩; subst w''))
                  go_ret
                  exact ⟨rfl, HB3.out⟩
                | some B =>
                  obtain ⟨P, hBP, hP1⟩ := HMS.out B (ofS mo) HNE.out HLA.out hoT
                  have hBl : (splL (splitL (moreP A (ofS mo)))).length ≤ 501 := split_len
                  rw [hoT, show splL (some B) = B from rfl] at hBl
                  rw [hoT, show splL (some B) = B from rfl, show splE (some B) = 0 from rfl] at HST
                  have hBL2 : B.length = k + P.length := by rw [hBP, List.length_append, HLL.out]
                  have HJB : Hid (∀ W aB cB, SAt W aB B.length B → B.length ≤ cB → Calls Try.prog 12 #[.slice aB B.length cB] W fun e w' => e = .returned (.string ((s ++ ⟨#[47]⟩) ++ mo)) ∧ Below W.heap.size W w') := Hid.mk (fun W aB cB h h2 => by
                    obtain ⟨e1, -, e2⟩ := split_some hoT
                    have := join_any W aB B.length cB B h (by omega) h2 (by rw [← e1] at e2; unfold joinP at e2; simp at e2; omega)
                    rw [e1] at this
                    unfold strV at this
                    rw [HTE.out] at this
                    exact this)
                  have HGD : Hid (∀ j, j < k → B.getD j [] = A.getD j []) := Hid.mk (fun j hj => by rw [hBP]; exact getD_append A P j (by rw [HLL.out]; exact hj))
                  clear hoT hBP HTE HNE HLA HMS
                  generalize hnB : B.length = nB at *
                  have hge : ¬ (nB : Int) < (k : Int) + 1 := by omega
                  have hge2 : (k : Int) + 1 ≤ nB := by omega
                  have HPN := Hid.mk (And.intro hnB (And.intro hBL2 hP1))
                  clear hnB hBL2 hP1
                  go_wp2_with (first
                    | (go_at_call 12; first | (refine (HJ.out _ HB0.out).mono ?_; clear HJ; rintro e W1 ⟨rfl, hw⟩; have HB1 := Hid.mk (HB0.out.trans (hw.mono HB0.out.size)); clear hw) | (refine (HJB.out _ _ _ HSB.out HCB.out).mono ?_; rintro e W4 ⟨rfl, hw⟩; have HB4 := Hid.mk hw; clear hw))
                    | (go_at_call 8; first | (refine (HSA.out _).mono ?_; clear HSA; rintro e W2 ⟨aA, cA, rfl, HA⟩; have HB2 := Hid.mk (HB1.out.trans (HA.out.2.2.2.mono HB1.out.size))) | (refine (HST.out _).mono ?_; rintro e W3 ⟨aB, cB, rfl, HB⟩; have HB3 := Hid.mk (HB2.out.trans (HB.out.2.2.2.mono HB2.out.size))))
                    | (go_at_call 10; refine (num_any _ _).mono ?_; rintro e w'' ⟨rfl, hw⟩; subst w''))
                  have HS3 : Hid (SAt W3 ao k A ∧ SAt W3 aA k A ∧ SAt W3 aB nB B) := Hid.mk ⟨HLW.out W3 HB3.out, HA.out.2.1.below HB.out.2.2.2, HB.out.2.1⟩
                  have HCB : Hid (nB ≤ cB) := Hid.mk HB.out.2.2.1
                  clear HA HB HST
                  go_loopw [14] (fun i wr3 => ∃ q : Nat, i = .int .i64 q ∧ q ≤ k ∧ Hid (Below W3.heap.size W3 wr3)) (fun i _ => k - (intOf i).toNat)
                  case atStart => exact ⟨0, rfl, Nat.zero_le _, Hid.mk (Below.refl _ _)⟩
                  case round =>
                    obtain ⟨q, rfl, hq, HBW⟩ := hrel
                    have hwq : IntKind.i64.wrap ((q : Int) + 1) = (q : Int) + 1 := by rw [IntKind.wrap_i64]; omega
                    obtain ⟨s1, s2, s3⟩ := HS3.out
                    have t1 := s1.below HBW.out
                    have t2 := s2.below HBW.out
                    have t3 := s3.below HBW.out
                    by_cases hlq : q < k
                    · have hiq : (q : Int) < k := by omega
                      have hqB : (q : Int) < nB := by omega
                      obtain ⟨a1, rfl, d1⟩ := t1.at q hlq
                      obtain ⟨a2, rfl, d2⟩ := t2.at q hlq
                      obtain ⟨a3, rfl, d3⟩ := t3.at q (by omega)
                      rw [HGD.out q hlq] at d3
                      unfold strV at d1 d2 d3
                      generalize mkS (A.getD q []) = x at *
                      clear s1 s2 s3 t1 t2 t3 HS3
                      go_wp2
                      go_quiet (fail)
                      go_wp2
                      go_roundw
                      case rel => exact ⟨q + 1, by go_num, by omega, Hid.mk (HBW.out.trans (below_drewN' _ _ _ HBW.out.size))⟩
                      case measure => simp [intOf]; omega
                    · have hiq : ¬ (q : Int) < k := by omega
                      have hiq2 : (k : Int) ≤ q := by omega
                      have HSB := Hid.mk t3
                      have HB5 := Hid.mk (HB3.out.trans (HBW.out.mono HB3.out.size))
                      clear s1 s2 s3 t1 t2 t3 HS3
                      go_wp2_with (go_at_call 12; refine (HJB.out _ _ _ HSB.out HCB.out).mono ?_; rintro e W4 ⟨rfl, hw⟩; have HB4 := Hid.mk hw; clear hw)
                      go_ret
                      exact ⟨rfl, HB5.out.trans (HB4.out.mono HB5.out.size)⟩
            · have hne : ((A.length : Int) == k) = false := by simp; omega
              have hne2 : ¬ (A.length : Int) = k := by omega
              clear hoS
              generalize A.length = nA at *
              go_wp2_with (first
                | (go_at_call 12; refine (HJ.out _ HB0.out).mono ?_; rintro e W1 ⟨rfl, hw⟩; have HB1 := Hid.mk (HB0.out.trans (hw.mono HB0.out.size)); clear hw)
                | (go_at_call 8; refine (HSA.out _).mono ?_; rintro e W2 ⟨aA, cA, rfl, HA⟩; have HB2 := Hid.mk (HB1.out.trans (HA.out.2.2.2.mono HB1.out.size)))
                | (go_at_call 10; refine (num_any _ _).mono ?_; rintro e w'' ⟨rfl, hw⟩; subst w''))
              go_ret
              exact ⟨rfl, HB2.out⟩
    · have hi1 : (n : Int) ≤ 20 := by omega
      have him : ¬ (mo.size : Int) ≤ 100 := by omega
      have him2 : (100 : Int) < mo.size := by omega
      go_enter Try.func6, Try.ntmps6
      go_wp2_with (go_at_call 7; refine HAL.out.mono ?_; rintro e W0 ⟨rfl, hw⟩; have HB0 := Hid.mk hw; clear hw)
      go_ret
      exact ⟨rfl, HB0.out⟩
  · have hi2 : ¬ (n : Int) ≤ 20 := by omega
    have hi3 : (20 : Int) < n := by omega
    go_enter Try.func6, Try.ntmps6
    go_wp2_with (go_at_call 7; refine HAL.out.mono ?_; rintro e W0 ⟨rfl, hw⟩; have HB0 := Hid.mk hw; clear hw)
    go_ret
    exact ⟨rfl, HB0.out⟩
end Go.Proofs.Ytacmlidodgbgoaa
