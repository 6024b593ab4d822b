/-
  TreeDeep: its walk.
-/
import Derived.Test.YtehaoeclnmelhacGreatTrDeep
namespace Go.Proofs.YtehaoeclnmelhacGreat
open Go Go.Proofs Go.RowKit Go.Shelf Go.Sort

theorem ch_cat (k : Nat) : mkS (chS k) ++ (⟨#[47, 100]⟩ : ByteArray) = mkS (chS (k + 1)) := by
  apply ofS_inj
  rw [of_mk]
  show (mkS (chS k) ++ (⟨#[47, 100]⟩ : ByteArray)).data.toList = _
  rw [ByteArray.data_append]
  simp [mkS, chS]
theorem ch_size (k : Nat) (h : k ≤ 60) : (mkS (chS k)).size ≤ 16777216 := by rw [mkS_size, chS_len]; omega
theorem doo_rmdir (w : World) (t : Nat) (k : Nat) (hk : k < 60) (Ls : List Lay) (hT : TrAt w t (chT (k + 1)) Ls) :
    Calls Tryz.prog 9 #[ptrV t, callV 5 (mkS (chS (k + 1))) ⟨#[]⟩ 0 0 (.slice none 0 0)] w fun e w' => e = .returned (errV 0) ∧ Step (fun k => k ∈ feet t Ls) w t w' (goT k) := by
  have hn : namedE (chT (k + 1)).nodes (ofS (mkS (chS (k + 1)))) = (0, some ⟨k, [100], some (k + 1)⟩) := by rw [of_mk]; exact ch_named k hk
  have hr : rmdirS (chT (k + 1)) (ofS (mkS (chS (k + 1)))) = (0, goT k) := by rw [of_mk]; exact ch_rmdir k hk
  have hl : (chT (k + 1)).nodes.length = k + 2 := by simp [chT, chP_len]
  have hlk : lookS (nodeAt (chT (k + 1)).nodes k).slots [100] = some (k + 1) := by rw [(ch_look k).2]; exact look_up k
  have hdk : (nodeAt (chT (k + 1)).nodes k).isDir = true := by rw [(ch_look k).2]; rfl
  refine (do_rmdir w t (goT k) Ls (mkS (chS (k + 1))) ⟨#[]⟩ 0 0 none 0 0 0 0 0 0 0 (fun x y _ => x = .slice none 0 0 ∧ y = .slice none 0 0) (fun k hk => hT.lt k hk) (fun _ _ _ _ h _ => h) (Hid.mk (fun W hB _ => (rmdir_main W t (chT (k + 1)) Ls (hT.below rfl hB) (ch_ok (k + 1)) 5 (mkS (chS (k + 1))) ⟨#[]⟩ 0 0 none 0 0 (ch_size _ (by omega)) k [100] (k + 1) hn (by omega) hdk hlk (by omega) (by decide)).mono (fun e w' hh => ⟨none, 0, 0, none, 0, 0, by rw [hh.1, hr]; rfl, by have := hh.2; rw [hr] at this; exact this, rfl, rfl⟩)))).mono ?_
  rintro e w' ⟨a1, n1, c1, a5, n5, c5, rfl, hst, h1, h2⟩
  cases h1; cases h2
  exact ⟨rfl, hst⟩
theorem OwnT.used {w W : World} {t : Nat} {σ : Tr} {B : Nat → Prop} (h : OwnT w W t σ B) :
    Calls Tryz.prog 12 #[ptrV t] W fun e w' => e = .returned (.tuple #[.int .i64 σ.inodes, .int .i64 σ.blocks]) ∧ Below W.heap.size W w' := by
  obtain ⟨h1, Ls, h2, h3⟩ := h
  exact used_any W t _ _ _ _ _ _ h2.1
set_option maxRecDepth 100000 in
set_option maxHeartbeats 4000000 in
theorem deep_any (w : World) (nI : Int) : Calls Tryz.prog 3 #[.int .i64 nI] w fun e w' => e = .returned (.bool true) ∧ Below w.heap.size w w' := by
  have HA := Hid.mk (alive_any w)
  by_cases h0 : nI < 1
  · go_enter Tryz.func3, Tryz.ntmps3
    go_wp2_with (go_at_call 7; refine HA.out.mono ?_; rintro e W0 ⟨rfl, hw⟩; have HB := Hid.mk hw; clear hw)
    go_ret
    exact ⟨rfl, HB.out⟩
  · by_cases h1 : 60 < nI
    · go_enter Tryz.func3, Tryz.ntmps3
      go_wp2_with (go_at_call 7; refine HA.out.mono ?_; rintro e W0 ⟨rfl, hw⟩; have HB := Hid.mk hw; clear hw)
      go_ret
      exact ⟨rfl, HB.out⟩
    · obtain ⟨n, rfl⟩ : ∃ n : Nat, nI = n := ⟨nI.toNat, by omega⟩
      have HN : Hid (1 ≤ n ∧ n ≤ 60) := Hid.mk (by omega)
      have HMK : Hid (∀ (W : World) (t k : Nat) (B : Nat → Prop), k < 60 → OwnT w W t (chT k) B → (∀ x, B x → x < W.heap.size) → Calls Tryz.prog 9 #[ptrV t, callV 2 (mkS (chS (k + 1))) ⟨#[]⟩ 0 0 (.slice none 0 0)] W fun e w' => e = .returned (errV 0) ∧ OwnT w w' t (chT (k + 1)) B ∧ (∀ x, B x → w'.heap[x]? = W.heap[x]?) ∧ W.heap.size ≤ w'.heap.size) := Hid.mk (fun W t k B hk hO hB => own_do hO hB (fun Ls hT => by
        have := doo_mkdir W t _ Ls hT (ch_ok k) (mkS (chS (k + 1))) ⟨#[]⟩ 0 0 none 0 0 (ch_size _ (by omega))
        rw [of_mk, ch_enter k hk] at this
        exact this))
      have HST : Hid (∀ (W : World) (t k : Nat) (B : Nat → Prop), k < 60 → OwnT w W t (chT (k + 1)) B → (∀ x, B x → x < W.heap.size) → Calls Tryz.prog 9 #[ptrV t, callV 10 (mkS (chS (k + 1))) ⟨#[]⟩ 0 0 (.slice none 0 0)] W fun e w' => e = .returned (.agg #[.int .i64 0, .slice none 0 0, .int .i64 2, .int .i64 1024, .int .i64 2, .slice none 0 0, .int .i64 0]) ∧ OwnT w w' t (chT (k + 1)) B ∧ (∀ x, B x → w'.heap[x]? = W.heap[x]?) ∧ W.heap.size ≤ w'.heap.size) := Hid.mk (fun W t k B hk hO hB => own_do hO hB (fun Ls hT =>
        doo_stat W t _ Ls hT (mkS (chS (k + 1))) ⟨#[]⟩ 0 0 none 0 0 (ch_size _ (by omega)) 0 2 1024 2 (by rw [of_mk]; exact ch_stat k hk)))
      have HRM : Hid (∀ (W : World) (t k : Nat) (B : Nat → Prop), k < 60 → OwnT w W t (chT (k + 1)) B → (∀ x, B x → x < W.heap.size) → Calls Tryz.prog 9 #[ptrV t, callV 5 (mkS (chS (k + 1))) ⟨#[]⟩ 0 0 (.slice none 0 0)] W fun e w' => e = .returned (errV 0) ∧ OwnT w w' t (goT k) B ∧ (∀ x, B x → w'.heap[x]? = W.heap[x]?) ∧ W.heap.size ≤ w'.heap.size) := Hid.mk (fun W t k B hk hO hB => own_do hO hB (fun Ls hT => doo_rmdir W t k hk Ls hT))
      have HSG : Hid (∀ (W : World) (t k : Nat) (B : Nat → Prop), k < 60 → OwnT w W t (goT k) B → (∀ x, B x → x < W.heap.size) → Calls Tryz.prog 9 #[ptrV t, callV 10 (mkS (chS (k + 1))) ⟨#[]⟩ 0 0 (.slice none 0 0)] W fun e w' => e = .returned (errV 10) ∧ OwnT w w' t (goT k) B ∧ (∀ x, B x → w'.heap[x]? = W.heap[x]?) ∧ W.heap.size ≤ w'.heap.size) := Hid.mk (fun W t k B hk hO hB => own_do hO hB (fun Ls hT =>
        doo_stat W t _ Ls hT (mkS (chS (k + 1))) ⟨#[]⟩ 0 0 none 0 0 (ch_size _ (by omega)) 10 0 0 0 (by rw [of_mk]; exact ch_gone k hk)))
      have HUS : Hid (∀ (W : World) (t k : Nat) (B : Nat → Prop), OwnT w W t (chT k) B → _) := Hid.mk (fun W t k B (hO : OwnT w W t (chT k) B) => hO.used)
      unfold errV callV ptrV at HMK HST HRM HSG
      unfold ptrV at HUS
      have h0' : (1 : Int) ≤ n := by omega
      have h1' : (n : Int) ≤ 60 := by omega
      go_enter Tryz.func3, Tryz.ntmps3
      go_wp2_with (first
        | (go_at_call 7; refine HA.out.mono ?_; rintro e W0 ⟨rfl, hw⟩; have HB := Hid.mk hw; clear hw)
        | (go_at_call 8; refine (new_any _ 2 4 100).mono ?_; rintro e W2 ⟨rfl, hT2, hB2⟩; have O0 : Hid (OwnT w W2 (W0.heap.size + 4) (chT 0) (fun _ => False)) := Hid.mk ⟨HB.out.trans (hB2.mono HB.out.size), _, hT2, fun k hk => ⟨by simp [feet, Lay.foot] at hk; have := HB.out.size; omega, fun h => h⟩⟩; unfold ptrV; clear hT2 hB2))
      generalize W0.heap.size + 4 = t at *
      clear HB
      go_loopw [5, 6] (fun p i wr => ∃ k : Nat, k ≤ n ∧ i = .int .i64 k ∧ p = .string (mkS (chS k)) ∧ OwnT w wr t (chT k) (fun _ => False)) (fun _ i _ => n - (intOf i).toNat)
      case atStart => exact ⟨0, by omega, rfl, rfl, O0.out⟩
      case round =>
        obtain ⟨k, hk, rfl, rfl, hO⟩ := hrel
        have OK := Hid.mk hO
        clear hO O0
        by_cases hlt : k < n
        · have hi : (k : Int) < n := by omega
          have hk60 : k < 60 := by have := HN.out; omega
          have HK := Hid.mk hk60
          have HLT := Hid.mk hlt
          have hcat := ch_cat k
          have hcl : ¬ 9223372036854775807 < (mkS (chS k)).size + 2 := by rw [mkS_size, chS_len]; omega
          have hcl2 : (mkS (chS k)).size + 2 ≤ 9223372036854775807 := by omega
          have hw1 : IntKind.i64.wrap ((k : Int) + 1) = (k : Int) + 1 := by rw [IntKind.wrap_i64]; omega
          clear hlt hk60 hk
          go_upto_region 11 with (first
            | (go_at_call 10; refine (lC_any _ _ _).mono ?_; rintro e W5 ⟨rfl, hB5⟩; have O1 := Hid.mk (OK.out.then hB5); unfold callV; try rw [hcat]; clear hB5)
            | (go_at_call 9; refine (HMK.out _ _ _ _ HK.out O1.out (fun k h => h.elim)).mono ?_; rintro e W6 ⟨rfl, hO, -, -⟩; have O2 := Hid.mk hO; clear hO))
          obtain ⟨Y6, hY6⟩ : ∃ Y6, Y6 = W6.alloc (.cells #[.int .i64 0, .slice none 0 0, .int .i64 0, .int .i64 0, .int .i64 0, .slice none 0 0, .int .i64 0] 31) := ⟨_, rfl⟩
          have P6 : Hid (OwnT w Y6 t (chT (k + 1)) (fun x => x = W6.heap.size)) := Hid.mk (by rw [hY6]; exact (O2.out.box _).less (fun k h => .inr h))
          have X6 : Hid (Y6.heap[W6.heap.size]? = some (.cells #[.int .i64 0, .slice none 0 0, .int .i64 0, .int .i64 0, .int .i64 0, .slice none 0 0, .int .i64 0] 31 (0, 0))) := Hid.mk (by rw [hY6]; exact blk_new W6 _)
          rw [← hY6]
          generalize W6.heap.size = b6 at *
          clear hY6 O1 O2 OK
          go_upto_region 12 with (first
            | (go_at_call 10; refine (lC_any _ _ _).mono ?_; rintro e W7 ⟨rfl, hB7⟩; have O1 := Hid.mk (P6.out.then hB7); have X7 := Hid.mk ((hB7.block _ (lt_of_block X6.out)).trans X6.out); unfold callV; try rw [hcat]; clear hB7)
            | (go_at_call 9; refine (HST.out _ _ _ _ HK.out O1.out (fun k h => by rw [h]; exact lt_of_block X7.out)).mono ?_; rintro e W8 ⟨rfl, hO, hk, -⟩; have O2 := Hid.mk hO; have X8 := Hid.mk ((hk _ rfl).trans X7.out); clear hO hk))
          obtain ⟨Y8, hY8⟩ : ∃ Y8, Y8 = W8.alloc (.cells #[.int .i64 0, .slice none 0 0, .int .i64 2, .int .i64 1024, .int .i64 2, .slice none 0 0, .int .i64 0] 31) := ⟨_, rfl⟩
          have P8 : Hid (OwnT w Y8 t (chT (k + 1)) (fun _ => False)) := Hid.mk (by rw [hY8]; exact (O2.out.box _).less (fun k h => h.elim))
          have q6 : Y8.heap[b6]? = some (.cells #[.int .i64 0, .slice none 0 0, .int .i64 0, .int .i64 0, .int .i64 0, .slice none 0 0, .int .i64 0] 31 (0, 0)) := by rw [hY8, Below.heap_alloc _ _ _ (lt_of_block X8.out)]; exact X8.out
          have q8 : Y8.heap[W8.heap.size]? = some (.cells #[.int .i64 0, .slice none 0 0, .int .i64 2, .int .i64 1024, .int .i64 2, .slice none 0 0, .int .i64 0] 31 (0, 0)) := by rw [hY8]; exact blk_new W8 _
          rw [← hY8]
          generalize W8.heap.size = b8 at *
          have c6 := blk_cell q6 0
          have c8 := blk_cell q8 4
          simp at c6 c8
          clear hY8 O1 O2 X6 X7 X8 P6 q6 q8
          go_wp2_with (go_at_call 11; refine (lnum_any _ _).mono ?_; rintro e W9 ⟨rfl, hw⟩; subst hw)
          go_roundw
          case rel => exact ⟨k + 1, by have := HLT.out; omega, by go_num, by rw [← hcat], P8.out⟩
          case measure => have := HLT.out; simp [intOf]; omega
        · have hi : ¬ (k : Int) < n := by omega
          obtain rfl : k = n := by omega
          obtain ⟨m, rfl⟩ : ∃ m, k = m + 1 := ⟨k - 1, by have := HN.out; omega⟩
          have HK : Hid (m < 60) := Hid.mk (by have := HN.out; omega)
          have hi2 : ¬ (((m + 1 : Nat) : Int) < ((m + 1 : Nat) : Int)) := by omega
          have hw1 : IntKind.i64.wrap (((m + 1 : Nat) : Int) + 1) = ((m + 1 : Nat) : Int) + 1 := by rw [IntKind.wrap_i64]; omega
          generalize hM : ((m + 1 : Nat) : Int) = M at *
          clear hlt hk
          go_upto_region 16 with (first
            | (go_at_call 12; refine (HUS.out _ _ _ _ OK.out).mono ?_; rintro e W3 ⟨rfl, hB3⟩; have O1 := Hid.mk (OK.out.then hB3); unfold chT; simp only [hM]; clear hB3)
            | (go_at_call 10; refine (lC_any _ _ _).mono ?_; rintro e W5 ⟨rfl, hB5⟩; have O2 := Hid.mk (O1.out.then hB5); unfold callV; clear hB5)
            | (go_at_call 9; refine (HRM.out _ _ _ _ HK.out O2.out (fun k h => h.elim)).mono ?_; rintro e W6 ⟨rfl, hO, -, -⟩; have O3 := Hid.mk hO; clear hO))
          obtain ⟨Y6, hY6⟩ : ∃ Y6, Y6 = W6.alloc (.cells #[.int .i64 0, .slice none 0 0, .int .i64 0, .int .i64 0, .int .i64 0, .slice none 0 0, .int .i64 0] 31) := ⟨_, rfl⟩
          have P6 : Hid (OwnT w Y6 t (goT m) (fun x => x = W6.heap.size)) := Hid.mk (by rw [hY6]; exact (O3.out.box _).less (fun k h => .inr h))
          have X6 : Hid (Y6.heap[W6.heap.size]? = some (.cells #[.int .i64 0, .slice none 0 0, .int .i64 0, .int .i64 0, .int .i64 0, .slice none 0 0, .int .i64 0] 31 (0, 0))) := Hid.mk (by rw [hY6]; exact blk_new W6 _)
          rw [← hY6]
          generalize W6.heap.size = b6 at *
          clear hY6 O1 O2 O3 OK
          go_upto_region 17 with (first
            | (go_at_call 10; refine (lC_any _ _ _).mono ?_; rintro e W7 ⟨rfl, hB7⟩; have O1 := Hid.mk (P6.out.then hB7); have X7 := Hid.mk ((hB7.block _ (lt_of_block X6.out)).trans X6.out); unfold callV; clear hB7)
            | (go_at_call 9; refine (HSG.out _ _ _ _ HK.out O1.out (fun k h => by rw [h]; exact lt_of_block X7.out)).mono ?_; rintro e W8 ⟨rfl, hO, hk, -⟩; have O2 := Hid.mk hO.below; have X8 := Hid.mk ((hk _ rfl).trans X7.out); clear hO hk))
          obtain ⟨Y8, hY8⟩ : ∃ Y8, Y8 = W8.alloc (.cells #[.int .i64 10, .slice none 0 0, .int .i64 0, .int .i64 0, .int .i64 0, .slice none 0 0, .int .i64 0] 31) := ⟨_, rfl⟩
          have P8 : Hid (Below w.heap.size w Y8) := Hid.mk (by rw [hY8]; exact O2.out.alloc O2.out.size _)
          have q6 : Y8.heap[b6]? = some (.cells #[.int .i64 0, .slice none 0 0, .int .i64 0, .int .i64 0, .int .i64 0, .slice none 0 0, .int .i64 0] 31 (0, 0)) := by rw [hY8, Below.heap_alloc _ _ _ (lt_of_block X8.out)]; exact X8.out
          have q8 : Y8.heap[W8.heap.size]? = some (.cells #[.int .i64 10, .slice none 0 0, .int .i64 0, .int .i64 0, .int .i64 0, .slice none 0 0, .int .i64 0] 31 (0, 0)) := by rw [hY8]; exact blk_new W8 _
          rw [← hY8]
          generalize W8.heap.size = b8 at *
          have c6 := blk_cell q6 0
          have c8 := blk_cell q8 0
          simp at c6 c8
          clear hY8 O1 O2 X6 X7 X8 P6 q6 q8
          go_wp2_with (go_at_call 11; refine (lnum_any _ _).mono ?_; rintro e W9 ⟨rfl, hw⟩; subst hw)
          go_ret
          exact ⟨rfl, P8.out⟩
end Go.Proofs.YtehaoeclnmelhacGreat
