/-
  Is a number in a list: the reference's In. Are changes too much: Big.
-/
import Derived.Test.YtjljklfahmjngaaPaWithout
namespace Go.Proofs.Ytjljklfahmjngaa
open Go Go.Proofs Go.RowKit Go.Shelf
attribute [local go_sem] Oper.semAt_some
set_option maxRecDepth 100000 in
theorem in_any (w : World) (oo : Option Addr) (m oc : Nat) (outs : List Int) (h : LAt w oo m outs) (hm : m ≤ 1000000) (x : Int) :
    Calls Try.prog 20 #[.slice oo m oc, .int .i64 x] w fun e w' => e = .returned (.bool (decide (x ∈ outs))) ∧ w' = w := by
  have H := Hid.mk h
  have HM := Hid.mk hm
  clear h hm
  go_enter Try.func20, Try.ntmps20
  go_wp2
  go_loop [5] (fun kv => ∃ k : Nat, kv = .int .i64 k ∧ Hid (k ≤ m ∧ x ∉ outs.take k)) (fun kv => m - (Go.RowKit.intOf kv).toNat)
  case atStart => exact ⟨0, rfl, Hid.mk ⟨Nat.zero_le _, by simp⟩⟩
  case round =>
    obtain ⟨k, rfl, HK⟩ := hrel
    by_cases hlt : k < m
    · have hlt' : (k : Int) < (m : Int) := by omega
      have u1 : IntKind.i64.wrap ((k : Int) + 1) = ((k + 1 : Nat) : Int) := by have := HM.out; rw [IntKind.wrap_i64]; omega
      obtain ⟨a, rfl, hca⟩ := H.out.at k hlt
      have hl := H.out.1
      by_cases he : outs.getD k 0 = x
      · have HX : Hid (x ∈ outs) := Hid.mk (he ▸ getD_mem (by omega))
        rw [he] at hca
        clear HK hl he
        go_wp2
        go_ret
        rw [decide_eq_true HX.out]
        exact ⟨rfl, rfl⟩
      · have HK2 : Hid (k + 1 ≤ m ∧ x ∉ outs.take (k + 1)) := Hid.mk ⟨hlt, by
          rw [take_snoc outs k (by omega), List.mem_append, List.mem_singleton]
          exact fun h => h.elim HK.out.2 (fun h => he h.symm)⟩
        have he2 : (outs.getD k 0 == x) = false := by simpa using he
        have HLT := Hid.mk hlt
        clear HK hl hlt
        generalize outs.getD k 0 = y at *
        go_wp2
        go_round
        case rel => exact ⟨k + 1, rfl, HK2⟩
        case measure => (have := HLT.out; simp [Go.RowKit.intOf]; omega)
    · have hlt' : ¬ (k : Int) < (m : Int) := by omega
      have HX : Hid (x ∉ outs) := Hid.mk (by
        have h1 := HK.out.2
        rwa [List.take_of_length_le (by have := H.out.1; omega)] at h1)
      clear HK
      go_wp2
      go_ret
      rw [decide_eq_false HX.out]
      exact ⟨rfl, rfl⟩
set_option maxRecDepth 100000 in
set_option maxHeartbeats 4000000 in
theorem big_any (w : World) (ao : Option Addr) (m c : Nat) (L : List Pt) (h : PcAt w ao m L) (hm : m ≤ 9223372036854775807) :
    Calls Try.prog 10 #[.slice ao m c] w fun e w' => w' = w ∧ (e = .returned (.bool true) ∨ (e = .returned (.bool false) ∧ Hid (m ≤ 60 ∧ ∀ p ∈ L, p.n ≤ 5000))) := by
  have H := Hid.mk h
  have HM := Hid.mk hm
  clear h hm
  go_enter Try.func10, Try.ntmps10
  go_wp2
  go_loop [3, 4] (fun nv kv => ∃ (k : Nat) (s : Nat), kv = .int .i64 k ∧ nv = .int .i64 s ∧ Hid (k ≤ m ∧ k ≤ 101 ∧ s ≤ 5000 * k ∧ ∀ j, j < k → (L.getD j noP).n ≤ 5000)) (fun _ kv => 101 - (Go.RowKit.intOf kv).toNat)
  case atStart => exact ⟨0, 0, rfl, rfl, Hid.mk ⟨Nat.zero_le _, by omega, Nat.le_refl _, fun j hj => by omega⟩⟩
  case round =>
    obtain ⟨k, s, rfl, rfl, HK⟩ := hrel
    by_cases hlt : k < m
    · have hlt' : (k : Int) < (m : Int) := by omega
      by_cases h100 : k ≤ 100
      · have h100' : (k : Int) ≤ 100 := by omega
        have u1 : IntKind.i64.wrap ((k : Int) + 1) = ((k + 1 : Nat) : Int) := by rw [IntKind.wrap_i64]; omega
        obtain ⟨a, rfl, x0, x1, x2⟩ := H.out.load k hlt
        by_cases hbig : 5000 < (L.getD k noP).n
        · have hbig' : (5000 : Int) < ((L.getD k noP).n : Int) := by omega
          clear HK
          generalize (L.getD k noP).n = pn at *
          go_wp2
          go_ret
          exact ⟨rfl, .inl rfl⟩
        · have hbig' : ¬ (5000 : Int) < ((L.getD k noP).n : Int) := by omega
          have u2 : IntKind.i64.wrap ((s : Int) + ((L.getD k noP).n : Int)) = ((s + (L.getD k noP).n : Nat) : Int) := by have := HK.out; rw [IntKind.wrap_i64]; omega
          have HK2 : Hid (k + 1 ≤ m ∧ k + 1 ≤ 101 ∧ s + (L.getD k noP).n ≤ 5000 * (k + 1) ∧ ∀ j, j < k + 1 → (L.getD j noP).n ≤ 5000) := Hid.mk ⟨hlt, by omega, by have := HK.out.2.2.1; omega, fun j hj => by
            by_cases e : j = k
            · subst e; omega
            · exact HK.out.2.2.2 j (by omega)⟩
          have HLT := Hid.mk h100
          clear HK hlt h100 hbig
          generalize (L.getD k noP).n = pn at *
          go_wp2
          go_round
          case rel => exact ⟨k + 1, _, rfl, rfl, HK2⟩
          case measure => (have := HLT.out; simp [Go.RowKit.intOf]; omega)
      · have h100' : ¬ (k : Int) ≤ 100 := by omega
        have h60 : (60 : Int) < (m : Int) := by omega
        clear HK
        go_wp2
        go_ret
        exact ⟨rfl, .inl rfl⟩
    · have hlt' : ¬ (k : Int) < (m : Int) := by omega
      have HA : Hid (∀ p ∈ L, p.n ≤ 5000) := Hid.mk (fun p hp => by
        obtain ⟨j, hj, rfl⟩ := List.getElem_of_mem hp
        have := HK.out.2.2.2 j (by have := H.out.1; omega)
        rwa [List.getD_eq_getElem?_getD, List.getElem?_eq_getElem hj] at this)
      clear HK
      by_cases h60 : m ≤ 60
      · have h60' : ¬ (60 : Int) < (m : Int) := by omega
        have HB : Hid (m ≤ 60 ∧ ∀ p ∈ L, p.n ≤ 5000) := Hid.mk ⟨h60, HA.out⟩
        clear HA h60
        by_cases h2 : (20000 : Int) < (s : Int)
        · go_wp2
          go_ret
          exact ⟨rfl, .inl rfl⟩
        · go_wp2
          go_ret
          first | exact ⟨rfl, .inr ⟨rfl, HB⟩⟩ | exact ⟨rfl, .inr rfl⟩
      · have h60' : (60 : Int) < (m : Int) := by omega
        go_wp2
        go_ret
        exact ⟨rfl, .inl rfl⟩
end Go.Proofs.Ytjljklfahmjngaa
