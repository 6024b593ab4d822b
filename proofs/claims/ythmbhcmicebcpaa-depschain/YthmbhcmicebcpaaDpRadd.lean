/-
  The reference's Add, walked.
-/
import Derived.Test.YthmbhcmicebcpaaDpRa
namespace Go.Proofs.Ythmbhcmicebcpaa
open Go Go.Proofs Go.RowKit Go.Shelf
attribute [local go_sem] Oper.semAt_some
theorem any_take {xs : List Int} {f : Int → Bool} {k : Nat} (hk : k < xs.length) : (xs.take (k + 1)).any f = ((xs.take k).any f || f (xs.getD k 0)) := by
  rw [List.take_add_one, List.getElem?_eq_getElem hk, List.any_append]
  simp [List.getD, List.getElem?_eq_getElem hk]
theorem any_at {xs : List Int} {f : Int → Bool} {k : Nat} (hk : k < xs.length) (h : f (xs.getD k 0) = true) : xs.any f = true :=
  List.any_eq_true.2 ⟨xs.getD k 0, by rw [List.getD, List.getElem?_eq_getElem hk]; exact List.getElem_mem _, h⟩
section
variable {F : Nat → Prop} {w : World} {r : Nat} {v : Value} {G : Gp}
set_option maxRecDepth 100000 in
set_option maxHeartbeats 4000000 in
theorem radd_any (h : RgAt F w r v G) (hF : ∀ k, F k → k < w.heap.size) (hn : G.n ≤ 1000000) (b : Int) (ao : Option Addr) (m cc : Nat) (xs : List Int) (hx : LAt w ao m xs) (h0 : ao = none → m = 0 ∧ cc = 0) (hm : m ≤ 1000000) :
    Calls Try.prog 30 #[ptV r, .int .i64 b, .slice ao m cc] w fun e w' => (xs.any (noneB G.n) = true → e = .returned (.tuple #[.int .i64 0, .int .i64 1]) ∧ Below w.heap.size w w') ∧ (xs.any (noneB G.n) = false → e = .returned (.tuple #[.int .i64 (G.n : Nat), .int .i64 0]) ∧ ∃ v', Hid (RgAt (Grown F w) w' r v' (G.add b xs) ∧ Only F w w')) := by
  obtain ⟨ar, cap, rfl, _⟩ := h.slice
  have HF : Hid (∀ q, (w.drewN q).cell? ⟨r, 0, none⟩ = some (.slice ar G.n cap) ∧ LAt (w.drewN q) ao m xs) := Hid.mk (fun q => by
    have hB := below_drewN' w q w.heap.size (Nat.le_refl _)
    exact ⟨(h.below hB).cell, hx.next hB⟩)
  have HB : Hid (∀ q, Below w.heap.size w (w.drewN q)) := Hid.mk (fun q => below_drewN' w q w.heap.size (Nat.le_refl _))
  have HPU : Hid (∀ wr, (∃ q, wr = w.drewN q) → ∃ a1 c1 W1 a3 c3 W3, (Builtin.append_ #[23, 23] 23 #[.slice none 0 0, .slice ao m cc]).run Try.prog wr.drew = .ok (.slice a1 m c1) W1 ∧ W1.cell? ⟨r, 0, none⟩ = some (.slice ar G.n cap) ∧ (Builtin.append_ #[30, 30] 30 #[.slice ar G.n cap, .slice (some ⟨W1.heap.size, 0, none⟩) 1 1]).run Try.prog (W1.alloc (.cells #[.int .i64 b, .slice a1 m c1, .bool false] 34)) = .ok (.slice a3 (G.n + 1) c3) W3 ∧ W3.cell? ⟨r, 0, none⟩ = some (.slice ar G.n cap) ∧ W3.frozen? ⟨r, 0, none⟩ = false ∧ (W1.alloc (.cells #[.int .i64 b, .slice a1 m c1, .bool false] 34)).cell? ⟨r, 0, none⟩ = some (.slice ar G.n cap) ∧ Hid (RgAt (Grown F w) (W3.setCell ⟨r, 0, none⟩ (.slice a3 (G.n + 1) c3)) r (.slice a3 (G.n + 1) c3) (G.add b xs) ∧ Only F w (W3.setCell ⟨r, 0, none⟩ (.slice a3 (G.n + 1) c3)))) := Hid.mk (fun wr ⟨q, e⟩ => by
    subst e
    have hB : Below w.heap.size w (w.drewN q).drew := (below_drewN' w q w.heap.size (Nat.le_refl _)).trans (show Below w.heap.size (w.drewN q) (w.drewN q).drew from drew_below (w.drewN q))
    obtain ⟨v1, W1, r1, o1, b1⟩ := appIs (hx.next hB) h0 hm
    obtain ⟨a1, c1, rfl, _⟩ := owns_lat o1
    have hs : (w.drewN q).drew.heap.size = w.heap.size := rfl
    rw [hs] at o1 b1
    have hBW : Below w.heap.size w W1 := hB.trans b1
    obtain ⟨a3, c3, W3, p1, p2, p3, p4, p5⟩ := h.push hF hn b hBW o1 hm
    exact ⟨a1, c1, W1, a3, c3, W3, r1, (h.below hBW).cell, p1, p2, p3, p4, p5⟩)
  obtain ⟨n, hnn⟩ : ∃ n, n = G.n := ⟨_, rfl⟩
  rw [← hnn] at HF HPU hn ⊢
  have HL := Hid.mk hx.1
  have HM := Hid.mk hm
  have HN := Hid.mk hn
  have u5 : IntKind.i64.wrap (((n + 1 : Nat) : Int) - 1) = ((n : Nat) : Int) := by rw [IntKind.wrap_i64]; omega
  clear h hF hn hx h0 hm hnn
  go_enter Try.func30, Try.ntmps30
  go_wp2
  go_loopw [8] (fun kv wr => ∃ k : Nat, kv = .int .i64 k ∧ Hid ((∃ q, wr = w.drewN q) ∧ k ≤ m ∧ (xs.take k).any (noneB n) = false)) (fun kv _ => m - (Go.RowKit.intOf kv).toNat)
  case atStart => exact ⟨0, rfl, Hid.mk ⟨⟨0, rfl⟩, Nat.zero_le _, by simp⟩⟩
  case round =>
    obtain ⟨k, rfl, HK⟩ := hrel
    have HFW : Hid (wr.cell? ⟨r, 0, none⟩ = some (.slice ar n cap) ∧ LAt wr ao m xs ∧ (∀ z, Below w.heap.size w (wr.drewN z)) ∧ ∀ z, ∃ q, wr.drewN z = w.drewN q) := Hid.mk (by
      obtain ⟨⟨q, e⟩, _, _⟩ := HK.out
      rw [e]
      exact ⟨(HF.out q).1, (HF.out q).2, fun z => by rw [World.drewN_drewN]; exact HB.out _, fun z => ⟨_, World.drewN_drewN _ _ _⟩⟩)
    by_cases hkl : (k : Int) < (m : Int)
    · have v1 : IntKind.i64.wrap ((k : Int) + 1) = ((k + 1 : Nat) : Int) := by have := HM.out; rw [IntKind.wrap_i64]; omega
      have HKL : Hid (k < m ∧ k < xs.length) := Hid.mk (by have := HL.out; omega)
      obtain ⟨c0, hla, _, _⟩ := HFW.out
      obtain ⟨a, rfl, _, hca⟩ := hla.2 (by omega)
      have q1 := hca k HKL.out.1
      have HT := Hid.mk (any_take (f := noneB n) HKL.out.2)
      have HAT := Hid.mk (any_at (f := noneB n) HKL.out.2)
      generalize xs.getD k 0 = y at q1 HT HAT
      have HA := Hid.mk HK.out.2.2
      have k0 : (0 : Int) ≤ ((k : Nat) : Int) := by omega
      by_cases hy : y < 0
      · have hd : decide (y < 0) = true := decide_eq_true hy
        have HE : Hid (xs.any (noneB n) = true) := Hid.mk (HAT.out (by simp [noneB, hy]))
        clear hla hca HK HT HA HAT
        go_wp2
        go_quiet (fail)
        go_wp2
        refine bodyPost_ret (results_tmp2 rfl _ _ _) rfl ?_
        exact ⟨fun _ => ⟨rfl, HFW.out.2.2.1 _⟩, fun e => by rw [HE.out] at e; cases e⟩
      · have hd : decide (y < 0) = false := decide_eq_false hy
        by_cases hy2 : (n : Int) ≤ y
        · have hd2 : decide ((n : Int) ≤ y) = true := decide_eq_true hy2
          have HE : Hid (xs.any (noneB n) = true) := Hid.mk (HAT.out (by simp [noneB, hy2]))
          clear hla hca HK HT HA HAT
          go_wp2
          go_quiet (fail)
          go_wp2
          refine bodyPost_ret (results_tmp2 rfl _ _ _) rfl ?_
          exact ⟨fun _ => ⟨rfl, HFW.out.2.2.1 _⟩, fun e => by rw [HE.out] at e; cases e⟩
        · have hd2 : decide ((n : Int) ≤ y) = false := decide_eq_false hy2
          have HT2 : Hid ((xs.take (k + 1)).any (noneB n) = false) := Hid.mk (by rw [HT.out, HA.out]; simp [noneB]; omega)
          clear hla hca HK HT HA HAT
          go_wp2
          go_quiet (fail)
          go_wp2
          go_roundw
          case rel => exact ⟨k + 1, rfl, Hid.mk ⟨HFW.out.2.2.2 _, HKL.out.1, HT2.out⟩⟩
          case measure => (have := HKL.out.1; simp [Go.RowKit.intOf]; omega)
    · have HA : Hid (xs.any (noneB n) = false) := Hid.mk (by
        have := HK.out.2.2
        rw [List.take_of_length_le (by have := HL.out; omega)] at this
        exact this)
      obtain ⟨a1, c1, W1, a3, c3, W3, p1, p2, p3, p4, p5, p6, HP⟩ := HPU.out wr HK.out.1
      have HA1 := Hid.mk p1
      have HS1 := Hid.mk p2
      have HA3 := Hid.mk p3
      have HS3 := Hid.mk p4
      have HFZ := Hid.mk p5
      have HS2 := Hid.mk p6
      have hH : wr.drew.cell? ⟨r, 0, none⟩ = some (.slice ar n cap) := HFW.out.1
      clear p1 p2 p3 p4 p5 p6 HPU HK
      go_wp2
      refine wp_region_but 13 (fun W => W.cell? ⟨r, 0, none⟩ = some (.slice ar n cap)) (by kernel_rfl) hH (fun hH => ?_)
      change Butt Try.prog Region.Mode.any _ _ _ 13 14 _ _ _
      refine takeL 0 32 (.pointer (some ⟨r, 0, none⟩)) rfl (by kernel_rfl) (by kernel_rfl) (by kernel_rfl) (by kernel_rfl) (by kernel_rfl) (fun _ _ _ h => h) (by kernel_rfl) (fun w hw => by kernel_rfl) hH ?_
      simp only [List.setIfInBounds_toArray, List.set_cons_zero, List.set_cons_succ]
      refine takeL 1 33 (.pointer (some ⟨r, 0, none⟩)) rfl (by kernel_rfl) (by kernel_rfl) (by kernel_rfl) (by kernel_rfl) (by kernel_rfl) (fun _ _ _ h => h) (by kernel_rfl) (fun w hw => by kernel_rfl) hH ?_
      simp only [List.setIfInBounds_toArray, List.set_cons_zero, List.set_cons_succ]
      refine takeL 2 34 (.pointer (some ⟨r, 0, none⟩)) rfl (by kernel_rfl) (by kernel_rfl) (by kernel_rfl) (by kernel_rfl) (by kernel_rfl) (fun _ _ _ h => h) (by kernel_rfl) (fun w hw => by go_simp) hH ?_
      simp only [List.setIfInBounds_toArray, List.set_cons_zero, List.set_cons_succ]
      refine takeL 3 35 (.pointer (some ⟨r, 0, none⟩)) rfl (by kernel_rfl) (by kernel_rfl) (by kernel_rfl) (by kernel_rfl) (by kernel_rfl) (fun _ _ _ h => h) (by kernel_rfl) (fun w hw => by go_simp) hH ?_
      simp only [List.setIfInBounds_toArray, List.set_cons_zero, List.set_cons_succ]
      refine takeL 4 36 (.slice ar n cap) rfl (by kernel_rfl) (by kernel_rfl) (by kernel_rfl) (by kernel_rfl) (by kernel_rfl) (fun _ _ _ h => h) (by kernel_rfl) (fun w hw => by go_simp) hH ?_
      simp only [List.setIfInBounds_toArray, List.set_cons_zero, List.set_cons_succ]
      refine takeL 5 37 (.int .i64 b) rfl (by kernel_rfl) (by kernel_rfl) (by kernel_rfl) (by kernel_rfl) (by kernel_rfl) (fun _ _ _ h => h) (by kernel_rfl) (fun w hw => by kernel_rfl) hH ?_
      simp only [List.setIfInBounds_toArray, List.set_cons_zero, List.set_cons_succ]
      refine takeL 6 38 (.slice ao m cc) rfl (by kernel_rfl) (by kernel_rfl) (by kernel_rfl) (by kernel_rfl) (by kernel_rfl) (fun _ _ _ h => h) (by kernel_rfl) (fun w hw => by kernel_rfl) hH ?_
      simp only [List.setIfInBounds_toArray, List.set_cons_zero, List.set_cons_succ]
      refine stepL_run 7 39 (.slice a1 m c1) (W1) rfl (by kernel_rfl) (by kernel_rfl) (by kernel_rfl) (exec_append (s := .const (.slice none 0 0)) (x := .tmp 38) (by kernel_rfl) (by kernel_rfl) (by kernel_rfl) HA1.out) HS1.out ?_
      simp only [List.setIfInBounds_toArray, List.set_cons_zero, List.set_cons_succ]
      have hH := HS1.out
      refine takeL 8 40 (.agg #[.int .i64 b, .slice a1 m c1, .bool false]) rfl (by kernel_rfl) (by kernel_rfl) (by kernel_rfl) (by kernel_rfl) (by kernel_rfl) (fun _ _ _ h => h) (by kernel_rfl) (fun w hw => by go_simp) hH ?_
      simp only [List.setIfInBounds_toArray, List.set_cons_zero, List.set_cons_succ]
      refine stepL_run 9 41 (.slice (some ⟨W1.heap.size, 0, none⟩) 1 1) (W1.alloc (.cells #[.int .i64 b, .slice a1 m c1, .bool false] 34)) rfl (by kernel_rfl) (by kernel_rfl) (by kernel_rfl) (exec_oneC (x := .tmp 40) (by kernel_rfl) (by kernel_rfl)) HS2.out ?_
      simp only [List.setIfInBounds_toArray, List.set_cons_zero, List.set_cons_succ]
      refine stepL_run 10 42 (.slice a3 (n + 1) c3) (W3) rfl (by kernel_rfl) (by kernel_rfl) (by kernel_rfl) (exec_append (s := .tmp 36) (x := .tmp 41) (by kernel_rfl) (by kernel_rfl) (by kernel_rfl) HA3.out) HS3.out ?_
      simp only [List.setIfInBounds_toArray, List.set_cons_zero, List.set_cons_succ]
      refine stepL_run 11 43 (.pointer (some ⟨r, 0, none⟩)) (W3) rfl (by kernel_rfl) (by kernel_rfl) (by kernel_rfl) (by go_simp) HS3.out ?_
      simp only [List.setIfInBounds_toArray, List.set_cons_zero, List.set_cons_succ]
      refine stepL_run 12 44 (.pointer (some ⟨r, 0, none⟩)) (W3) rfl (by kernel_rfl) (by kernel_rfl) (by kernel_rfl) (by go_simp) HS3.out ?_
      simp only [List.setIfInBounds_toArray, List.set_cons_zero, List.set_cons_succ]
      refine lastL (W3.setCell ⟨r, 0, none⟩ (.slice a3 (n + 1) c3)) rfl (by kernel_rfl) (by kernel_rfl) (by kernel_rfl) (exec_storeR (p := .tmp 44) (x := .tmp 42) (by kernel_rfl) (by kernel_rfl) (by kernel_rfl) HS3.out HFZ.out) (by kernel_rfl) ?_
      obtain ⟨W4, hW4⟩ : ∃ W4, W4 = W3.setCell ⟨r, 0, none⟩ (.slice a3 (n + 1) c3) := ⟨_, rfl⟩
      have HC4 : Hid (W4.cell? ⟨r, 0, none⟩ = some (.slice a3 (n + 1) c3)) := Hid.mk (by rw [hW4]; exact HP.out.1.cell)
      rw [← hW4] at HP ⊢
      have c4 := HC4.out
      clear hW4 hH HC4
      have u6 : wrap64 ((n : Nat) : Int) = ((n : Nat) : Int) := by have := HN.out; unfold wrap64; omega
      go_wp2
      refine bodyPost_ret (results_tmp2 rfl _ _ _) rfl ?_
      exact ⟨fun e => (by rw [HA.out] at e; cases e), fun _ => ⟨congrArg (fun z : Int => Ending.returned (.tuple #[.int .i64 z, .int .i64 0])) u6, _, HP⟩⟩
end
end Go.Proofs.Ythmbhcmicebcpaa
