/-
  EntryReads: what any bytes are as an entry, or that they are none.
-/
import Derived.Test.YtpdekpdlmfnndaaPacksWalk
namespace Go.Proofs.Ytpdekpdlmfnndaa
open Go Go.Proofs Go.RowKit Go.Shelf

theorem owns_cap {w : World} {base : Nat} {ao : Option Addr} {n c : Nat} {xs : List Value} (h : w.ownsRow base 5 1 (.slice ao n c) n xs) : n ≤ c ∧ c ≤ 9223372036854775807 := by
  rcases h.2 with ⟨e, rfl⟩ | ⟨g, cap, cur, e, _, _, hnc, hm, _⟩
  · cases e; exact ⟨Nat.le_refl _, by omega⟩
  · cases e
    exact ⟨hnc, by unfold maxLen at hm; omega⟩

set_option maxRecDepth 100000 in
set_option maxHeartbeats 4000000 in
theorem reads_any (w : World) (ao : Option Addr) (n c : Nat) (xs : List Int) (h : BAt w ao n xs) (hx : ∀ x ∈ xs, 0 ≤ x ∧ x ≤ 255) (hc : n ≤ c) (hc2 : c ≤ 9223372036854775807) (hno : ao = none → n = 0 ∧ c = 0) :
    Calls Try.prog 5 #[.slice ao n c] w fun e w' => e = .returned (.bool true) ∧ Below w.heap.size w w' := by
  have HB : Hid (Below w.heap.size w w) := Hid.mk (Below.refl _ _)
  have HBX := Hid.mk h
  have HX := Hid.mk hx
  have HNO := Hid.mk hno
  have HLEN := Hid.mk h.1
  clear h hx hno
  by_cases hn : 500 < n
  · go_enter Try.func5, Try.ntmps5
    go_wp2_with (go_at_call 8; refine (alive_any _).mono ?_; rintro e W2 ⟨rfl, hB⟩; replace HB := Hid.mk (HB.out.trans hB); clear hB)
    go_ret
    exact ⟨rfl, HB.out⟩
  have hn' : n ≤ 500 := by omega
  clear hn
  have HRA : Hid (∀ W ao c, BAt W ao n xs → n ≤ c → c ≤ 9223372036854775807 → Calls Try.prog 16 #[.slice ao n c] W fun e w' => e = .returned (.tuple #[entV (rdI xs) (rdS xs), .int .i64 (rdE xs)]) ∧ Below W.heap.size W w') := Hid.mk (fun W ao c hb h1 h2 => read_any W ao n c xs hb HX.out h1 h2)
  have HRR : Hid (∀ W, BAt W ao n xs → Calls Try.prog 17 #[.slice ao n c] W fun e w' => e = .returned (.tuple #[entV (rdI xs) (rdS xs), .bool (rdB xs)]) ∧ Below W.heap.size W w') := Hid.mk (fun W hb => rread_any W ao n c xs hb HX.out hc hc2)
  have HIS := Hid.mk (rd_is xs HX.out)
  have HEL : Hid (rdB xs = true → n = 32 ∧ entL (rdI xs) (nm (rdS xs)) = xs) := Hid.mk (fun h => by
    have hp := rd_parts h
    rw [(rd_yes h).1, (rd_yes h).2.1, nm_str _ (got_bound xs HX.out)]
    exact ⟨by rw [← HLEN.out]; exact hp.1, hp.2.2.2⟩)
  have HE5 : Hid (rdE xs = if rdB xs = true then 0 else 5) := Hid.mk rfl
  generalize rdI xs = i at *
  generalize rdS xs = s at *
  obtain ⟨SX, hSX⟩ : ∃ SX, SX = strOfNums xs := ⟨_, rfl⟩
  have HSX := Hid.mk hSX
  clear hSX hc hc2
  cases hf : rdB xs with
  | false =>
    rw [hf] at HRR HE5
    have HE : Hid (rdE xs = 5) := Hid.mk (by rw [HE5.out]; rfl)
    rw [HE.out] at HRA
    clear hf HE5 HEL HE
    go_enter Try.func5, Try.ntmps5
    go_upto_region 4 with (go_at_call 8; refine (alive_any _).mono ?_; rintro e W2 ⟨rfl, hB⟩; replace HBX := Hid.mk (HBX.out.below hB); replace HB := Hid.mk (HB.out.trans (hB.mono HB.out.size)); clear hB)
    obtain ⟨v, W3, hr, ho, hB⟩ := append_nil_below W2 ao n c xs HBX.out (by omega) HNO.out
    replace HBX := Hid.mk (HBX.out.below hB)
    replace HB := Hid.mk (HB.out.trans (hB.mono HB.out.size))
    obtain ⟨ao2, c2, rfl, hb2, -⟩ := owns_BAt ho
    have HCAP := Hid.mk (owns_cap ho)
    have HB2 := Hid.mk hb2
    have HR := Hid.mk hr
    clear hr ho hB hb2
    go_wp2_with (first
      | (at_builtin; refine wpList_append_known rfl _ (.tmp 20) 27 rfl _ _ _ _ rfl rfl HR.out ?_)
      | (go_at_call 16; refine (HRA.out _ _ _ HB2.out HCAP.out.1 HCAP.out.2).mono ?_; rintro e W4 ⟨rfl, hB⟩; replace HBX := Hid.mk (HBX.out.below hB); replace HB := Hid.mk (HB.out.trans (hB.mono HB.out.size)); clear hB; obtain ⟨X, Y, d, hrX, hrY, hD, hB, hd⟩ := var26 W4 i s; replace HBX := Hid.mk (HBX.out.below hB); replace HB := Hid.mk (HB.out.trans (hB.mono HB.out.size)); have HD := Hid.mk hD; have HRX := Hid.mk hrX; have HRY := Hid.mk hrY; clear hB hrX hrY hD hd HR)
      | (refine wpL_new rfl rfl _ X HRX.out ?_; clear HRX)
      | (refine wpL_store (.tmp 4) (.tmp 23) rfl rfl _ _ Y rfl rfl HRY.out ?_; clear HRY)
      | (go_at_call 17; refine (HRR.out _ HBX.out).mono ?_; rintro e W5 ⟨rfl, hB⟩; replace HBX := Hid.mk (HBX.out.below hB); replace HB := Hid.mk (HB.out.trans (hB.mono HB.out.size)); replace HD := Hid.mk (HD.out.below hB HD.out.lt); clear hB; obtain ⟨X2, Y2, d2, hrX, hrY, hD2, hB, hd⟩ := var26 W5 i s; replace HBX := Hid.mk (HBX.out.below hB); replace HB := Hid.mk (HB.out.trans (hB.mono HB.out.size)); replace HD := Hid.mk (HD.out.below hB HD.out.lt); have HD2 := Hid.mk hD2; have HRX2 := Hid.mk hrX; have HRY2 := Hid.mk hrY; clear hB hrX hrY hD2 hd)
      | (refine wpL_new rfl rfl _ X2 HRX2.out ?_; clear HRX2)
      | (refine wpL_store (.tmp 6) (.tmp 28) rfl rfl _ _ Y2 rfl rfl HRY2.out ?_; clear HRY2)
      | (go_at_call 10; refine (num_any _ _).mono ?_; rintro e w3 ⟨rfl, hw⟩; subst w3)
      | (refine wpL_load (.tmp 4) rfl rfl d i s rfl HD.out ?_)
      | (refine wpL_load (.tmp 6) rfl rfl d2 i s rfl HD2.out ?_)
      | (refine wpL_neq (.tmp 45) (.tmp 46) 26 rfl rfl i s i s true (eqE_self _ _) rfl rfl ?_))
    go_ret
    exact ⟨rfl, HB.out⟩
  | true =>
    obtain ⟨hn32, hel⟩ := HEL.out hf
    rw [hf] at HRR HE5
    have HE : Hid (rdE xs = 0) := Hid.mk (by rw [HE5.out]; rfl)
    rw [HE.out] at HRA
    have HEL2 := Hid.mk hel
    subst hn32
    clear hf HE5 HEL HE hel
    go_enter Try.func5, Try.ntmps5
    go_upto_region 4 with (go_at_call 8; refine (alive_any _).mono ?_; rintro e W2 ⟨rfl, hB⟩; replace HBX := Hid.mk (HBX.out.below hB); replace HB := Hid.mk (HB.out.trans (hB.mono HB.out.size)); clear hB)
    obtain ⟨v, W3, hr, ho, hB⟩ := append_nil_below W2 ao 32 c xs HBX.out (by omega) HNO.out
    replace HBX := Hid.mk (HBX.out.below hB)
    replace HB := Hid.mk (HB.out.trans (hB.mono HB.out.size))
    obtain ⟨ao2, c2, rfl, hb2, -⟩ := owns_BAt ho
    have HCAP := Hid.mk (owns_cap ho)
    have HB2 := Hid.mk hb2
    have HR := Hid.mk hr
    clear hr ho hB hb2
    go_wp2_with (first
      | (at_builtin; refine wpList_append_known rfl _ (.tmp 20) 27 rfl _ _ _ _ rfl rfl HR.out ?_)
      | (go_at_call 16; refine (HRA.out _ _ _ HB2.out HCAP.out.1 HCAP.out.2).mono ?_; rintro e W4 ⟨rfl, hB⟩; replace HBX := Hid.mk (HBX.out.below hB); replace HB := Hid.mk (HB.out.trans (hB.mono HB.out.size)); clear hB; obtain ⟨X, Y, d, hrX, hrY, hD, hB, hd⟩ := var26 W4 i s; replace HBX := Hid.mk (HBX.out.below hB); replace HB := Hid.mk (HB.out.trans (hB.mono HB.out.size)); have HD := Hid.mk hD; have HRX := Hid.mk hrX; have HRY := Hid.mk hrY; clear hB hrX hrY hD hd HR)
      | (refine wpL_new rfl rfl _ X HRX.out ?_; clear HRX)
      | (refine wpL_store (.tmp 4) (.tmp 23) rfl rfl _ _ Y rfl rfl HRY.out ?_; clear HRY)
      | (go_at_call 17; refine (HRR.out _ HBX.out).mono ?_; rintro e W5 ⟨rfl, hB⟩; replace HBX := Hid.mk (HBX.out.below hB); replace HB := Hid.mk (HB.out.trans (hB.mono HB.out.size)); replace HD := Hid.mk (HD.out.below hB HD.out.lt); clear hB; obtain ⟨X2, Y2, d2, hrX, hrY, hD2, hB, hd⟩ := var26 W5 i s; replace HBX := Hid.mk (HBX.out.below hB); replace HB := Hid.mk (HB.out.trans (hB.mono HB.out.size)); replace HD := Hid.mk (HD.out.below hB HD.out.lt); have HD2 := Hid.mk hD2; have HRX2 := Hid.mk hrX; have HRY2 := Hid.mk hrY; clear hB hrX hrY hD2 hd)
      | (refine wpL_new rfl rfl _ X2 HRX2.out ?_; clear HRX2)
      | (refine wpL_store (.tmp 6) (.tmp 28) rfl rfl _ _ Y2 rfl rfl HRY2.out ?_; clear HRY2)
      | (go_at_call 10; refine (num_any _ _).mono ?_; rintro e w3 ⟨rfl, hw⟩; subst w3)
      | (refine wpL_load (.tmp 4) rfl rfl d i s rfl HD.out ?_)
      | (refine wpL_load (.tmp 6) rfl rfl d2 i s rfl HD2.out ?_)
      | (refine wpL_neq (.tmp 45) (.tmp 46) 26 rfl rfl i s i s true (eqE_self _ _) rfl rfl ?_)
      | (go_at_call 12; refine (pack_yes _ i s HIS.out).mono ?_; rintro e W6 ⟨g, rfl, hrow, hge, hB⟩; replace HBX := Hid.mk (HBX.out.below hB); replace HB := Hid.mk (HB.out.trans (hB.mono HB.out.size)); rw [HEL2.out] at hrow; have HRW := Hid.mk hrow; clear hB hrow hge HD HD2)
      | (refine wpL_conv (.tmp 60) rfl rfl (some ⟨g, 0, none⟩) 32 32 xs rfl (HRW.out.full HLEN.out) SX HSX.out ?_)
      | (refine wpL_conv (.tmp 62) rfl rfl ao 32 c xs rfl HBX.out SX HSX.out ?_)
      | (refine wpL_streql (.tmp 61) (.tmp 63) 9 rfl rfl SX SX true (by simp) rfl rfl ?_))
    go_ret
    exact ⟨rfl, HB.out⟩
end Go.Proofs.Ytpdekpdlmfnndaa
