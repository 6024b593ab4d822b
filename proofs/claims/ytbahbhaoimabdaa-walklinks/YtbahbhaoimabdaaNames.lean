/-
  Names: the bytes of a string; IndexByte; Name of the program and of the reference.
-/
import Derived.Test.YtbahbhaoimabdaaLayNm
import Derived.Lib.Bytealg
import Derived.Laws.StructEq
namespace Go.Proofs.Ytbahbhaoimabdaa
open Go Go.Proofs Go.RowKit Go.Shelf
/-- The bytes of a string, as numbers. -/
def nm (s : ByteArray) : List Int := s.data.toList.map (fun u => (u.toNat : Int))
theorem nm_length (s : ByteArray) : (nm s).length = s.size := by simp [nm]
theorem nm_bound (s : ByteArray) : ∀ x ∈ nm s, 0 ≤ x ∧ x ≤ 255 := by
  intro x hx
  obtain ⟨u, _, rfl⟩ := List.mem_map.1 hx
  have := u.toNat_lt
  omega
theorem str_nm (s : ByteArray) : strOfNums (nm s) = s := by
  obtain ⟨⟨l⟩⟩ := s
  simp only [strOfNums, nm, List.map_map]
  congr 2
  conv => rhs; rw [← List.map_id l]
  apply List.map_congr_left
  intro u _
  simp
theorem nm_str (xs : List Int) (h : ∀ x ∈ xs, 0 ≤ x ∧ x ≤ 255) : nm (strOfNums xs) = xs := by
  refine str_inj _ _ (nm_bound _) h ?_
  rw [str_nm]
theorem nm_inj {s t : ByteArray} (h : nm s = nm t) : s = t := by rw [← str_nm s, ← str_nm t, h]
theorem nm_at (s : ByteArray) (k : Nat) (h : k < s.size) : ((s[k]'h).toNat : Int) = (nm s).getD k 0 := by
  have h2 : k < s.data.toList.length := by simpa using h
  simp [nm, List.getD]
  rw [Array.getElem?_eq_getElem (by simpa using h)]
  rfl
set_option maxRecDepth 100000 in
theorem pstr_eq (s t : ByteArray) : (s.toList == t.toList) = decide (s = t) := by
  rw [ByteArray.toList_eq, ByteArray.toList_eq]
  by_cases h : s = t
  · simp [h]
  · rw [decide_eq_false h, beq_eq_false_iff_ne]
    intro e
    obtain ⟨⟨x⟩⟩ := s
    obtain ⟨⟨y⟩⟩ := t
    simp at e
    subst e
    exact h rfl
theorem nm_nil (s : ByteArray) : (s.toList == (ByteArray.mk #[]).toList) = decide (nm s = []) := by
  rw [pstr_eq]
  congr 1
  rw [eq_iff_iff]
  constructor
  · rintro rfl; rfl
  · intro h
    exact nm_inj (by rw [h]; rfl)
theorem nm_empty (s : ByteArray) : s.toList.isEmpty = decide (s.size = 0) := by
  rw [ByteArray.toList_eq]
  obtain ⟨⟨l⟩⟩ := s
  cases l <;> simp [ByteArray.size]
set_option maxRecDepth 100000 in
theorem idx_neg (l : List UInt8) (c : UInt8) : decide (Lib.indexByte l c < 0) = decide (c ∉ l) := by
  induction l with
  | nil => simp [Lib.indexByte]
  | cons b l ih =>
    have hg := Lib.indexByte_ge l c
    unfold Lib.indexByte
    by_cases hb : b = c
    · subst hb; simp
    · have hb' : (b == c) = false := by simpa using hb
      rw [hb']
      simp only [Bool.false_eq_true, if_false]
      have hne : ¬ c = b := fun h => hb h.symm
      by_cases h1 : Lib.indexByte l c = -1
      · rw [h1] at ih
        simp at ih
        simp [h1, hne, ih]
      · have h2 : ¬ Lib.indexByte l c < 0 := by omega
        rw [decide_eq_false h2] at ih
        have hm : c ∈ l := by simpa using ih.symm
        have h3 : ¬ (Lib.indexByte l c + 1 < 0) := by omega
        simp [h1, hm, h3]
set_option maxRecDepth 100000 in
theorem idx_nm (s : ByteArray) (c : Nat) (hc : c < 256) : decide (Lib.indexByte s.data.toList (UInt8.ofNat c) < 0) = decide ((c : Int) ∉ nm s) := by
  rw [idx_neg]
  congr 1
  rw [eq_iff_iff]
  refine not_congr ?_
  unfold nm
  constructor
  · intro h
    refine List.mem_map.2 ⟨_, h, ?_⟩
    simp
    omega
  · intro h
    obtain ⟨u, hu, e⟩ := List.mem_map.1 h
    have : u = UInt8.ofNat c := by
      apply UInt8.toNat_inj.1
      simp
      omega
    rwa [← this]
theorem call34 (args : Array Value) (w : World) : (callFunc 66 args).run Try.prog w = ((Extern.BytealgIndexByte.indexByte args).run Try.prog w).andThen fun v w' => .ok (.value v) w' :=
  run_callFunc_extern Try.func66 (by kernel_rfl) (by kernel_rfl) (by kernel_rfl) (by kernel_rfl) args w
set_option maxRecDepth 100000 in
theorem idx33_any (w : World) (s : ByteArray) (c : Int) : Calls Try.prog 62 #[.string s, .int .u8 c] w fun e w' => e = .returned (.int .i64 (Lib.indexByte s.data.toList c.toNat.toUInt8)) ∧ w' = w := by
  have h34 : (callFunc 66 #[.string s, .int .u8 c]).run Try.prog w = .ok (.value (.int .i64 (Lib.indexByte s.data.toList c.toNat.toUInt8))) w := by
    rw [call34, Lib.run_indexByteString]; rfl
  generalize Lib.indexByte s.data.toList c.toNat.toUInt8 = r at *
  go_enter Try.func62, Try.ntmps62
  go_wp2
  go_ret
  exact ⟨rfl, rfl⟩
set_option maxRecDepth 100000 in
theorem idx_any (w : World) (s : ByteArray) (c : Int) : Calls Try.prog 59 #[.string s, .int .u8 c] w fun e w' => e = .returned (.int .i64 (Lib.indexByte s.data.toList c.toNat.toUInt8)) ∧ w' = w := by
  go_enter Try.func59, Try.ntmps59
  go_wp2_with (go_at_call 62; refine (idx33_any _ _ _).mono ?_; rintro e w' ⟨rfl, hw⟩; subst w')
  go_ret
  exact ⟨rfl, rfl⟩
/-- May an entry have that name? -/
def nameB (l : List Int) : Bool := decide (1 ≤ l.length ∧ l.length ≤ 27 ∧ (0 : Int) ∉ l ∧ (47 : Int) ∉ l)
theorem nameB_yes {l : List Int} : nameB l = true ↔ 1 ≤ l.length ∧ l.length ≤ 27 ∧ (0 : Int) ∉ l ∧ (47 : Int) ∉ l := by simp [nameB]
set_option maxRecDepth 100000 in
set_option maxHeartbeats 1000000 in
theorem name_any (w : World) (s : ByteArray) (hs : s.size ≤ 1000) : Calls Try.prog 54 #[.string s] w fun e w' => e = .returned (.bool (nameB (nm s))) ∧ w' = w := by
  have HL := Hid.mk (nm_length s)
  have h0 := idx_nm s 0 (by omega)
  have h47 := idx_nm s 47 (by omega)
  have HN : Hid (nameB (nm s) = (decide (1 ≤ s.size ∧ s.size ≤ 27) && (decide ((0 : Int) ∉ nm s) && decide ((47 : Int) ∉ nm s)))) := Hid.mk (by
    unfold nameB
    rw [HL.out]
    simp only [← Bool.decide_and]
    congr 1
    simp only [and_assoc])
  have e0 : ((0 : Int).toNat.toUInt8) = UInt8.ofNat 0 := by decide
  have e47 : ((47 : Int).toNat.toUInt8) = UInt8.ofNat 47 := by decide
  have H0 := Hid.mk e0
  have H47 := Hid.mk e47
  clear e0 e47
  generalize hr0 : Lib.indexByte s.data.toList (UInt8.ofNat 0) = r0 at h0
  generalize hr1 : Lib.indexByte s.data.toList (UInt8.ofNat 47) = r1 at h47
  have HR0 := Hid.mk hr0
  have HR1 := Hid.mk hr1
  clear hr0 hr1
  simp only [Int.natCast_zero] at h0
  rw [← show ((47 : Nat) : Int) = 47 from rfl] at HN
  rw [← h0, ← h47] at HN
  clear h0 h47
  by_cases hA : s.size = 0
  · have HD := Hid.mk (show nameB (nm s) = false by rw [HN.out, decide_eq_false (by omega)]; rfl)
    clear HN
    go_enter Try.func54, Try.ntmps54
    go_wp2
    go_ret
    exact ⟨by rw [HD.out]; rfl, rfl⟩
  · have hA' : ((s.size : Int) == 0) = false := by rw [beq_eq_false_iff_ne]; omega
    by_cases hB : s.size ≤ 27
    · have HD := Hid.mk (show nameB (nm s) = (decide (r0 < 0) && decide (r1 < 0)) by rw [HN.out, decide_eq_true (by omega)]; rfl)
      clear HN
      by_cases hC : r0 < 0
      · by_cases hE : r1 < 0
        · go_enter Try.func54, Try.ntmps54
          go_wp2_with (go_at_call 59; refine (idx_any _ _ _).mono ?_; rintro e w' ⟨rfl, hw⟩; subst w'; first | rw [H0.out, HR0.out] | rw [H47.out, HR1.out])
          go_ret
          exact ⟨by rw [HD.out]; simp [hC, hE], rfl⟩
        · go_enter Try.func54, Try.ntmps54
          go_wp2_with (go_at_call 59; refine (idx_any _ _ _).mono ?_; rintro e w' ⟨rfl, hw⟩; subst w'; first | rw [H0.out, HR0.out] | rw [H47.out, HR1.out])
          go_ret
          exact ⟨by rw [HD.out]; simp [hC], rfl⟩
      · have HD2 := Hid.mk (show nameB (nm s) = false by rw [HD.out]; simp [hC])
        go_enter Try.func54, Try.ntmps54
        go_wp2_with (go_at_call 59; refine (idx_any _ _ _).mono ?_; rintro e w' ⟨rfl, hw⟩; subst w'; first | rw [H0.out, HR0.out] | rw [H47.out, HR1.out])
        go_ret
        exact ⟨by rw [HD2.out]; rfl, rfl⟩
    · have HD := Hid.mk (show nameB (nm s) = false by rw [HN.out, decide_eq_false (by omega)]; rfl)
      clear HN
      go_enter Try.func54, Try.ntmps54
      go_wp2
      go_ret
      exact ⟨by rw [HD.out]; rfl, rfl⟩
set_option maxRecDepth 100000 in
set_option maxHeartbeats 1000000 in
theorem rname_any (w : World) (s : ByteArray) (hs : s.size ≤ 1000) : Calls Try.prog 40 #[.string s] w fun e w' => e = .returned (.bool (nameB (nm s))) ∧ w' = w := by
  have HL := Hid.mk (nm_length s)
  have HAT := Hid.mk (nm_at s)
  go_enter Try.func40, Try.ntmps40
  go_wp2
  go_loop [3] (fun i => ∃ k : Nat, k ≤ s.size ∧ i = .int .i64 k ∧ ∀ j, j < k → (nm s).getD j 0 ≠ 0 ∧ (nm s).getD j 0 ≠ 47) (fun i => s.size - (intOf i).toNat)
  case atStart => exact ⟨0, by omega, rfl, fun j hj => by omega⟩
  case round =>
    obtain ⟨k, hk, rfl, hall⟩ := hrel
    have HA := Hid.mk hall
    clear hall
    by_cases hlt : k < s.size
    · have hx := HAT.out k hlt
      have HM : Hid ((nm s).getD k 0 ∈ nm s) := Hid.mk (getD_mem (by rw [HL.out]; exact hlt))
      by_cases h0 : (nm s).getD k 0 = 0
      · have HD : Hid (nameB (nm s) = false) := Hid.mk (by
          unfold nameB
          rw [decide_eq_false]
          rintro ⟨_, _, h, _⟩
          have := HM.out
          rw [h0] at this
          exact h this)
        rw [h0] at hx
        clear h0
        have hz : (s[k]'hlt).toNat = 0 := by omega
        have hz2 : (((s[k]'hlt).toNat : Int) == 0) = true := by simp [hz]
        clear hx
        go_wp2
        go_ret
        exact ⟨by rw [HD.out]; rfl, rfl⟩
      · by_cases h1 : (nm s).getD k 0 = 47
        · have HD : Hid (nameB (nm s) = false) := Hid.mk (by
            unfold nameB
            rw [decide_eq_false]
            rintro ⟨_, _, _, h⟩
            have := HM.out
            rw [h1] at this
            exact h this)
          rw [h1] at hx
          clear h0 h1
          have hz0 : ¬ (s[k]'hlt).toNat = 0 := by omega
          have hz1 : (((s[k]'hlt).toNat : Int) == 0) = false := by simp; omega
          have hz2 : (s[k]'hlt).toNat = 47 := by omega
          have hz3 : (((s[k]'hlt).toNat : Int) == 47) = true := by simp; omega
          clear hx
          go_wp2
          go_ret
          exact ⟨by rw [HD.out]; rfl, rfl⟩
        · have HA2 : Hid (∀ j, j < k + 1 → (nm s).getD j 0 ≠ 0 ∧ (nm s).getD j 0 ≠ 47) := Hid.mk (fun j hj => by
            rcases Nat.lt_or_ge j k with h | h
            · exact HA.out j h
            · obtain rfl : j = k := by omega
              exact ⟨h0, h1⟩)
          rw [← hx] at h0 h1
          have hz0 : ¬ (s[k]'hlt).toNat = 0 := by omega
          have hz1 : (((s[k]'hlt).toNat : Int) == 0) = false := by simp; omega
          have hz2 : ¬ (s[k]'hlt).toNat = 47 := by omega
          have hz3 : (((s[k]'hlt).toNat : Int) == 47) = false := by simp; omega
          clear hx h0 h1
          go_wp2
          go_round
          case rel => exact ⟨k + 1, by omega, by go_num, HA2.out⟩
          case measure => simp [intOf]; omega
    · have hge : (s.size : Int) ≤ k := by omega
      obtain rfl : k = s.size := by omega
      have HD : Hid (nameB (nm s) = decide (1 ≤ s.size ∧ s.size ≤ 27)) := Hid.mk (by
        unfold nameB
        rw [HL.out]
        congr 1
        rw [eq_iff_iff]
        have hno : ∀ c : Int, (c = 0 ∨ c = 47) → c ∉ nm s := by
          intro c hc hm
          obtain ⟨i, hi, e⟩ := List.getElem_of_mem hm
          have := HA.out i (by rw [← HL.out]; exact hi)
          rw [show (nm s).getD i 0 = (nm s)[i] by simp [List.getD, List.getElem?_eq_getElem hi], e] at this
          omega
        exact ⟨fun h => ⟨h.1, h.2.1⟩, fun h => ⟨h.1, h.2, hno 0 (.inl rfl), hno 47 (.inr rfl)⟩⟩)
      have hnl := nm_empty s
      by_cases hA : s.size = 0
      · rw [decide_eq_true hA] at hnl
        have HD2 := Hid.mk (show nameB (nm s) = false by rw [HD.out]; exact decide_eq_false (by omega))
        go_wp2
        go_ret
        exact ⟨by rw [HD2.out]; rfl, rfl⟩
      · rw [decide_eq_false hA] at hnl
        have HD2 := Hid.mk (show nameB (nm s) = decide ((s.size : Int) ≤ 27) by rw [HD.out]; congr 1; rw [eq_iff_iff]; omega)
        go_wp2
        go_ret
        exact ⟨by rw [HD2.out]; rfl, rfl⟩
end Go.Proofs.Ytbahbhaoimabdaa
