/-
  Read of the program.
-/
import Derived.Test.YtpdekpdlmfnndaaAlive
namespace Go.Proofs.Ytpdekpdlmfnndaa
open Go Go.Proofs Go.RowKit Go.Shelf

theorem equal_any (w : World) (ao bo : Option Addr) (n m c d : Nat) (xs ys : List Int) (h1 : BAt w ao n xs) (h2 : BAt w bo m ys) (hx : ∀ x ∈ xs, 0 ≤ x ∧ x ≤ 255) (hy : ∀ x ∈ ys, 0 ≤ x ∧ x ≤ 255) :
    Calls Try.prog 28 #[.slice ao n c, .slice bo m d] w fun e w' => e = .returned (.bool (eqB xs ys)) ∧ w' = w := by
  have c1 := conv_bytes w ao n c xs h1
  have c2 := conv_bytes w bo m d ys h2
  have e := str_eqB xs ys hx hy
  have E := Hid.mk e
  clear e
  go_enter Try.func28, Try.ntmps28
  go_wp2
  go_ret
  exact ⟨by rw [← E.out]; rfl, rfl⟩
theorem BAt.front {W : World} {a : Addr} {n : Nat} {xs : List Int} (h : BAt W (some a) n xs) (m : Nat) (hm : m ≤ n) : BAt W (some a) m (xs.take m) := by
  refine ⟨by simp [h.1]; omega, fun hp => ?_⟩
  obtain ⟨a', e, hlt, hc⟩ := h.2 (by omega)
  refine ⟨a', e, hlt, fun i hi => ?_⟩
  rw [hc i (by omega)]
  simp [List.getD, hi]
theorem loadVar26 {b : Nat} {i : Int} {s : ByteArray} {W : World} (hN : NAt b i s W) : (loadVar 26 ⟨b, 0, none⟩).run Try.prog W = .ok (entV i s) W := by
  have h := load26_run hN
  simpa [Instr.loadAt, Instr.sureAddr] using h
theorem results_cell2 {f : Func} {tmps : Array Value} {a c b : Nat} {i : Int} {s : ByteArray} {W : World} (hf : f.results = #[.cell a 26, .tmp c]) (ht : tmps.getD a undef = .pointer (some ⟨b, 0, none⟩)) (hN : NAt b i s W) : (results f tmps).run Try.prog W = .ok (.tuple #[entV i s, tmps.getD c undef]) W := by
  have h := loadVar26 hN
  have ht2 : tmps[a]?.getD undef = .pointer (some ⟨b, 0, none⟩) := by rw [← ht]; simp
  unfold results
  rw [hf]
  simp [ht2, asAddr, h]
theorem alloc26_any (W : World) : ∃ X c, (Instr.alloc 26 true (.tuple #[])).run Try.prog W = .ok (.pointer (some ⟨c, 0, none⟩)) X ∧ NAt c 0 noS X ∧ Below W.heap.size W X ∧ W.heap.size ≤ c :=
  ⟨_, _, alloc26_run W, NAt.new W _ _, (Below.refl _ W).alloc (Nat.le_refl _) _, Nat.le_refl _⟩
theorem exec_alloc {ev : Operand → Value} {oi : Oper} {v : Value} {W X : World} (ho : oi.op = .alloc 26) (h : (Instr.alloc 26 true (.tuple #[])).run Try.prog W = .ok v X) : (execOp ev oi).run Try.prog W = .ok (.value v) X := by
  unfold execOp
  rw [ho]
  simp only [Sem.run_bind, h, Result.andThen_ok]
  rfl
section
variable {w : World} {ops : Array Oper} {rest : List Oper} {o : Oper} {a : Act} {Q : Exit → Act → World → Prop}
theorem wpL_new (ho : o.op = .alloc 26) (hw : Region.wanted o (yielded ops a.tmps) = true) (v : Value) (w' : World) (hr : (Instr.alloc 26 true (.tuple #[])).run Try.prog w = .ok v w') (h : wpList Try.prog ops Q rest (a.put o.dst v) w') : wpList Try.prog ops Q (o :: rest) a w :=
  wpList_known hw _ _ (exec_alloc ho hr) h
end
theorem rd_no {xs : List Int} (h : rdB xs = false) : rdI xs = 0 ∧ rdS xs = noS ∧ rdE xs = 5 := by simp [rdI, rdS, rdE, h]
theorem rd_yes {xs : List Int} (h : rdB xs = true) : rdI xs = gotI xs ∧ rdS xs = strOfNums (gotL xs) ∧ rdE xs = 0 := by simp [rdI, rdS, rdE, h]

theorem add4 (a : Addr) : a.add 4 = ⟨a.block, a.off + 4, none⟩ := by simp [Addr.add]
theorem read_short (w : World) (ao : Option Addr) (n c : Nat) (hn : n ≠ 32) :
    Calls Try.prog 16 #[.slice ao n c] w fun e w' => e = .returned (.tuple #[entV 0 noS, .int .i64 5]) ∧ Below w.heap.size w w' := by
  have h1 : ((n : Int) == 32) = false := by simp; omega
  have h2 : ¬ ((n : Int) = 32) := by omega
  obtain ⟨X, b, hrX, hX, hXB, hXb⟩ := alloc26_any w
  obtain ⟨Y, hrY, hY, hYo⟩ := store26_run (j := 0) (t := noS) hX
  have HRX := Hid.mk hrX
  have HRY := Hid.mk hrY
  have HY := Hid.mk hY
  have HB := Hid.mk (hXB.trans (hYo.below hXB.size (fun k e => by rw [e]; exact hXb)))
  clear hrX hX hXB hrY hY hYo hXb
  go_enter Try.func16, Try.ntmps16
  go_wp2_with (first
    | (refine wpL_new rfl rfl _ X HRX.out ?_)
    | (refine wpL_build rfl rfl ?_)
    | (refine wpL_store (.tmp 2) (.tmp 18) rfl rfl _ _ Y rfl rfl HRY.out ?_))
  exact bodyPost_ret (results_cell2 Try.results16 rfl HY.out) rfl ⟨rfl, HB.out⟩
theorem read_big (w : World) (a : Addr) (c : Nat) (xs : List Int) (h : BAt w (some a) 32 xs) (k : Nat) (hk : xs.getD 4 0 = k) (hk1 : 27 < k) (hk2 : k ≤ 255) :
    Calls Try.prog 16 #[.slice (some a) 32 c] w fun e w' => e = .returned (.tuple #[entV 0 noS, .int .i64 5]) ∧ Below w.heap.size w w' := by
  obtain ⟨X, b, hrX, hX, hXB, hXb⟩ := alloc26_any w
  obtain ⟨a', e, hc4⟩ := (h.only (Only.of_new (fun _ => False) hXB) (fun _ _ _ h => h)).at 4 (by omega)
  cases e
  rw [hk, add4] at hc4
  obtain ⟨Y, hrY, hY, hYo⟩ := store26_run (j := 0) (t := noS) hX
  have HRX := Hid.mk hrX
  have HRY := Hid.mk hrY
  have HY := Hid.mk hY
  have HB := Hid.mk (hXB.trans (hYo.below hXB.size (fun k e => by rw [e]; exact hXb)))
  clear hrX hX hXB hrY hY hYo hXb h hk
  go_enter Try.func16, Try.ntmps16
  go_wp2_with (first
    | (refine wpL_new rfl rfl _ X HRX.out ?_)
    | (refine wpL_build rfl rfl ?_)
    | (refine wpL_store (.tmp 2) (.tmp 18) rfl rfl _ _ Y rfl rfl HRY.out ?_))
  exact bodyPost_ret (results_cell2 Try.results16 rfl HY.out) rfl ⟨rfl, HB.out⟩

set_option maxRecDepth 100000 in
set_option maxHeartbeats 4000000 in
theorem read_full (w : World) (a : Addr) (c : Nat) (xs : List Int) (h : BAt w (some a) 32 xs) (hx : ∀ x ∈ xs, 0 ≤ x ∧ x ≤ 255) (hc : 32 ≤ c) (hc2 : c ≤ 9223372036854775807) (k : Nat) (hk : xs.getD 4 0 = k) (hk1 : k ≤ 27) :
    Calls Try.prog 16 #[.slice (some a) 32 c] w fun e w' => e = .returned (.tuple #[entV (rdI xs) (rdS xs), .int .i64 (rdE xs)]) ∧ Below w.heap.size w w' := by
  have hlen := h.1
  have HX := Hid.mk hx
  obtain ⟨W1, b, hrX, hX, hXB, hXb⟩ := alloc26_any w
  obtain ⟨B, hBe⟩ : ∃ B, B = w.heap.size := ⟨_, rfl⟩
  rw [← hBe] at hXB hXb
  have HBA : Hid (∀ W, Below B w W → BAt W (some a) 32 xs) := Hid.mk (fun W hB => h.only (Only.of_new (fun _ => False) (by rw [hBe] at hB; exact hB)) (fun _ _ _ h => h))
  rw [← hBe]
  obtain ⟨a', e, hc4⟩ := (HBA.out W1 hXB).at 4 (by omega)
  cases e
  rw [hk, add4] at hc4
  have HRX := Hid.mk hrX
  have HN1 := Hid.mk hX
  have HB1 := Hid.mk hXB
  have HBb := Hid.mk hXb
  have HBs : Hid (B ≤ w.heap.size) := Hid.mk (by omega)
  have HGL : Hid (gotL xs = (xs.drop 5).take k) := Hid.mk (by unfold gotL; rw [hk, Int.toNat_natCast])
  have H27 : Hid (∀ W, Below B w W → Calls Try.prog 27 #[.slice (some a) 32 c] W fun e w' => e = .returned (.int .i64 (gotI xs)) ∧ w' = W) := Hid.mk (fun W hB => get32_any W a 32 c xs (HBA.out W hB) HX.out (by omega) (by omega))
  have HCV : Hid (∀ W, Below B w W → (convert 27 9 (.slice (some ⟨a.block, a.off + 5, none⟩) k (c - 5))).run Try.prog W = .ok (.string (strOfNums (gotL xs))) W) := Hid.mk (fun W hB => conv_bytes W _ _ _ _ (by rw [HGL.out]; exact ((HBA.out W hB).slice 5 (by omega) (by omega)).front k (by omega)))
  have HK := Hid.mk hk
  clear hrX hX hXB hXb h hx hBe hk
  generalize hS : strOfNums (gotL xs) = S at HCV
  have HSE := Hid.mk hS
  clear hS
  go_enter Try.func16, Try.ntmps16
  go_upto_region 4 with (refine wpL_new rfl rfl _ W1 HRX.out ?_)
  clear hc4
  go_cut [5] from 24 to 30 (fun v wx => ∃ d, v = .pointer (some ⟨d, 0, none⟩) ∧ NAt d (gotI xs) S wx ∧ NAt b 0 noS wx ∧ Below B w wx ∧ b < d)
  case first =>
    refine wp_region_held_drew (S := Below B w) (by kernel_rfl) HB1.out.drew (fun hH => ?_)
    change wpAnyH Try.prog Region.Mode.any _ _ _ 9 _ _ _
    refine takeH 0 24 (.slice (some a) 32 c) rfl (by kernel_rfl) (by kernel_rfl) (by kernel_rfl) (by kernel_rfl) (fun _ _ _ h => h) (by kernel_rfl) (fun w hw => by kernel_rfl) hH ?_
    simp only [List.setIfInBounds_toArray, List.set_cons_zero, List.set_cons_succ]
    refine takeH 2 26 (.slice (some a) 32 c) rfl (by kernel_rfl) (by kernel_rfl) (by kernel_rfl) (by kernel_rfl) (fun _ _ _ h => h) (by kernel_rfl) (fun w hw => by kernel_rfl) hH ?_
    simp only [List.setIfInBounds_toArray, List.set_cons_zero, List.set_cons_succ]
    refine takeH 3 27 (.int .i64 (5 + k)) rfl (by kernel_rfl) (by kernel_rfl) (by kernel_rfl) (by kernel_rfl) (fun _ _ _ h => h) (by kernel_rfl) (fun w hw => by kernel_rfl) hH ?_
    simp only [List.setIfInBounds_toArray, List.set_cons_zero, List.set_cons_succ]
    refine takeH 4 28 (.slice (some ⟨a.block, a.off + 5, none⟩) k (c - 5)) rfl (by kernel_rfl) (by kernel_rfl) (by kernel_rfl) (by kernel_rfl) (fun _ _ _ h => h) (by kernel_rfl) (fun w hw => by (have e : (5 + (k : Int)).toNat - 5 = k := by omega); go_simp; rw [if_pos (by omega), if_pos (by omega), if_neg (by omega)]) hH ?_
    simp only [List.setIfInBounds_toArray, List.set_cons_zero, List.set_cons_succ]
    refine takeH 5 29 (.string S) rfl (by kernel_rfl) (by kernel_rfl) (by kernel_rfl) (by kernel_rfl) (fun _ _ _ h => h) (by kernel_rfl) (fun w hw => by exact exec_convert (x := .tmp 28) rfl (by kernel_rfl) (HCV.out _ hw)) hH ?_
    simp only [List.setIfInBounds_toArray, List.set_cons_zero, List.set_cons_succ]
    have HN : Hid (NAt b 0 noS W1.drew) := HN1
    refine stepH_two 1 7 (by kernel_rfl) ?_ ?_
    · refine opH_call 1 25 rfl (by kernel_rfl) (by kernel_rfl) 27 #[.tmp 24] #[27] (by kernel_rfl) (enters_of Try.func27 (by kernel_rfl) rfl) #[.slice (some a) 32 c] (by kernel_rfl) (H27.out _ hH) ?_
      rintro e w' ⟨rfl, hw⟩
      subst w'
      refine ⟨_, rfl, hH, ?_⟩
      simp only [List.setIfInBounds_toArray, List.set_cons_zero, List.set_cons_succ]
      refine takeH 6 30 (entV (gotI xs) S) rfl (by kernel_rfl) (by kernel_rfl) (by kernel_rfl) (by kernel_rfl) (fun _ _ _ h => h) (by kernel_rfl) (fun w hw => by exact exec_build26two (x := .tmp 25) (y := .tmp 29) rfl (by kernel_rfl) (by kernel_rfl)) hH ?_
      simp only [List.setIfInBounds_toArray, List.set_cons_zero, List.set_cons_succ]
      obtain ⟨W3, d, hr, hD, hB, hd⟩ := alloc26_any W1.drew
      have hbd : b < d := Nat.lt_of_lt_of_le HN.out.lt hd
      replace HN := Hid.mk (HN.out.below hB HN.out.lt)
      have HD := Hid.mk hD
      have hS' := hH.trans (hB.mono (Nat.le_trans HBs.out hH.size))
      refine stepH_run 7 5 (.pointer (some ⟨d, 0, none⟩)) W3 rfl (by kernel_rfl) (by kernel_rfl) (by kernel_rfl) (exec_alloc rfl hr) hS' ?_
      clear hH hr hD hB hd
      have hH := hS'
      clear hS'
      simp only [List.setIfInBounds_toArray, List.set_cons_zero, List.set_cons_succ]
      obtain ⟨W4, hr, hD, ho⟩ := store26_run (j := gotI xs) (t := S) HD.out
      have hS2 : Below B w W4 := hH.trans (ho.below (Nat.le_trans HBs.out hH.size) (fun k e => by rw [e]; have := HBb.out; omega))
      have hN2 := HN.out.only ho (by omega)
      have HFIN : Hid (NAt d (gotI xs) S W4 ∧ NAt b 0 noS W4 ∧ Below B w W4 ∧ b < d) := Hid.mk ⟨hD, hN2, hS2, hbd⟩
      have HR := Hid.mk hr
      clear hD ho hr hN2
      refine stepH_one 8 (by kernel_rfl) ?_
      refine opH_store 8 W4 rfl (by kernel_rfl) (by kernel_rfl) (exec_store (p := .tmp 5) (x := .tmp 30) rfl (by kernel_rfl) (by kernel_rfl) HR.out) hS2 ?_
      refine wpAnyH_done (by kernel_rfl) ?_ _
      clear hH hS2 hbd HR
      go_wp2_with fail
      go_meet
      case rel => exact ⟨d, rfl, HFIN.out⟩
    · obtain ⟨W3, d, hr, hD, hB, hd⟩ := alloc26_any W1.drew
      have hbd : b < d := Nat.lt_of_lt_of_le HN.out.lt hd
      replace HN := Hid.mk (HN.out.below hB HN.out.lt)
      have HD := Hid.mk hD
      have hS' := hH.trans (hB.mono (Nat.le_trans HBs.out hH.size))
      refine opH_run 7 5 (.pointer (some ⟨d, 0, none⟩)) W3 rfl (by kernel_rfl) (by kernel_rfl) (exec_alloc rfl hr) hS' ?_
      clear hH hr hD hB hd
      have hH := hS'
      clear hS'
      simp only [List.setIfInBounds_toArray, List.set_cons_zero, List.set_cons_succ]
      refine stepH_call 1 25 rfl (by kernel_rfl) (by kernel_rfl) (by kernel_rfl) 27 #[.tmp 24] #[27] (by kernel_rfl) (enters_of Try.func27 (by kernel_rfl) rfl) #[.slice (some a) 32 c] (by kernel_rfl) (H27.out _ hH) ?_
      rintro e w' ⟨rfl, hw⟩
      subst w'
      refine ⟨_, rfl, hH, ?_⟩
      simp only [List.setIfInBounds_toArray, List.set_cons_zero, List.set_cons_succ]
      refine takeH 6 30 (entV (gotI xs) S) rfl (by kernel_rfl) (by kernel_rfl) (by kernel_rfl) (by kernel_rfl) (fun _ _ _ h => h) (by kernel_rfl) (fun w hw => by exact exec_build26two (x := .tmp 25) (y := .tmp 29) rfl (by kernel_rfl) (by kernel_rfl)) hH ?_
      simp only [List.setIfInBounds_toArray, List.set_cons_zero, List.set_cons_succ]
      obtain ⟨W4, hr, hD, ho⟩ := store26_run (j := gotI xs) (t := S) HD.out
      have hS2 : Below B w W4 := hH.trans (ho.below (Nat.le_trans HBs.out hH.size) (fun k e => by rw [e]; have := HBb.out; omega))
      have hN2 := HN.out.only ho (by omega)
      have HFIN : Hid (NAt d (gotI xs) S W4 ∧ NAt b 0 noS W4 ∧ Below B w W4 ∧ b < d) := Hid.mk ⟨hD, hN2, hS2, hbd⟩
      have HR := Hid.mk hr
      clear hD ho hr hN2
      refine stepH_one 8 (by kernel_rfl) ?_
      refine opH_store 8 W4 rfl (by kernel_rfl) (by kernel_rfl) (exec_store (p := .tmp 5) (x := .tmp 30) rfl (by kernel_rfl) (by kernel_rfl) HR.out) hS2 ?_
      refine wpAnyH_done (by kernel_rfl) ?_ _
      clear hH hS2 hbd HR
      go_wp2_with fail
      go_meet
      case rel => exact ⟨d, rfl, HFIN.out⟩
  case rest =>
    obtain ⟨d, rfl, hD, hN, hS, hbd⟩ := hcut
    have HRD : Hid (rdB xs = (isB (gotI xs) (gotL xs) && eqB (entL (gotI xs) (gotL xs)) xs)) := Hid.mk (by unfold rdB; rw [hlen, HK.out]; simp; omega)
    have HBX := Hid.mk (HBA.out wc hS)
    have HNM : Hid (nm S = gotL xs) := Hid.mk (by rw [← HSE.out]; exact nm_str _ (got_bound xs HX.out))
    have hsz : S.size ≤ 27 := by rw [← nm_length, HNM.out, HGL.out]; simp; omega
    rw [← HNM.out] at HRD
    obtain ⟨i, hie⟩ : ∃ i, i = gotI xs := ⟨_, rfl⟩
    rw [← hie] at hD HRD
    have HLE := Hid.mk hie
    have HD := Hid.mk hD
    have HN := Hid.mk hN
    have HFIN : Hid (∀ W5 Y : World, Below wc.heap.size wc W5 → Only (fun k => k = b) W5 Y → Below B w Y) := Hid.mk (fun W5 Y h1 h2 => (hS.trans (h1.mono (Nat.le_trans HBs.out hS.size))).trans (h2.below (Nat.le_trans (Nat.le_trans HBs.out hS.size) h1.size) (fun k e => by rw [e]; exact HBb.out)))
    have HSZ := Hid.mk hsz
    clear H27 HCV HBA HB1 HN1 HRX hie hD hN hS hbd hsz
    cases hf : isB i (nm S) with
    | false =>
      have HP := Hid.mk (pack_no wc i S (by have := HSZ.out; omega) hf)
      have HR := Hid.mk (rd_no (xs := xs) (by rw [HRD.out, hf]; rfl))
      clear hf HRD
      go_wp2_with (first
        | (refine wpL_load (.tmp 5) rfl rfl d i S rfl HD.out ?_)
        | (go_at_call 12; refine HP.out.mono ?_; rintro e w5 ⟨rfl, hB5⟩; obtain ⟨Y, hrY, hY, hYo⟩ := store26_run (j := 0) (t := noS) (HN.out.below hB5 HN.out.lt); have HB5 := Hid.mk (HFIN.out _ _ hB5 hYo); have HY := Hid.mk hY; have HRY := Hid.mk hrY; clear hB5 hrY hY hYo)
        | (refine wpL_build rfl rfl ?_)
        | (refine wpL_store (.tmp 2) (.tmp 44) rfl rfl _ _ Y rfl rfl HRY.out ?_))
      exact bodyPost_ret (results_cell2 Try.results16 rfl HY.out) rfl ⟨by rw [HR.out.1, HR.out.2.1, HR.out.2.2]; rfl, HB5.out⟩
    | true =>
      have HP := Hid.mk (pack_yes wc i S hf)
      have hpl := isB_parts hf
      have HEL := Hid.mk (entL_length i (nm S) hpl.2)
      have HEB := Hid.mk (entL_bound i (nm S) hpl.2 (nm_bound S))
      clear hpl
      have HEQL : Hid (∀ W g, Below wc.heap.size wc W → RAt W g (entL i (nm S)) → Calls Try.prog 28 #[.slice (some a) 32 c, .slice (some ⟨g, 0, none⟩) 32 32] W fun e w' => e = .returned (.bool (eqB xs (entL i (nm S)))) ∧ w' = W) := Hid.mk (fun W g hB hr => equal_any W (some a) (some ⟨g, 0, none⟩) 32 32 c 32 xs (entL i (nm S)) (HBX.out.only (Only.of_new (fun _ => False) hB) (fun _ _ _ h => h)) (hr.full HEL.out) HX.out HEB.out)
      have heqs : eqB (entL i (nm S)) xs = eqB xs (entL i (nm S)) := by unfold eqB; congr 1; rw [eq_iff_iff]; exact eq_comm
      rw [heqs] at HRD
      clear heqs
      cases heq : eqB xs (entL i (nm S)) with
      | false =>
        have HR := Hid.mk (rd_no (xs := xs) (by rw [HRD.out, hf, heq]; rfl))
        rw [heq] at HEQL
        clear hf HRD heq
        go_wp2_with (first
          | (refine wpL_load (.tmp 5) rfl rfl d i S rfl HD.out ?_)
          | (go_at_call 12; refine HP.out.mono ?_; rintro e w5 ⟨g, rfl, hrow, hge, hB5⟩; obtain ⟨Y, hrY, hY, hYo⟩ := store26_run (j := 0) (t := noS) (HN.out.below hB5 HN.out.lt); have HE5 := Hid.mk (HEQL.out _ _ hB5 hrow); have HB5 := Hid.mk (HFIN.out _ _ hB5 hYo); have HY := Hid.mk hY; have HRY := Hid.mk hrY; clear hB5 hrY hY hYo hrow hge)
          | (go_at_call 28; refine HE5.out.mono ?_; rintro e w6 ⟨rfl, hw⟩; subst w6)
          | (refine wpL_build rfl rfl ?_)
          | (refine wpL_store (.tmp 2) (.tmp 44) rfl rfl _ _ Y rfl rfl HRY.out ?_))
        exact bodyPost_ret (results_cell2 Try.results16 rfl HY.out) rfl ⟨by rw [HR.out.1, HR.out.2.1, HR.out.2.2]; rfl, HB5.out⟩
      | true =>
        have HR := Hid.mk (rd_yes (xs := xs) (by rw [HRD.out, hf, heq]; rfl))
        rw [heq] at HEQL
        clear hf HRD heq
        go_wp2_with (first
          | (refine wpL_load (.tmp 5) rfl rfl d i S rfl HD.out ?_)
          | (go_at_call 12; refine HP.out.mono ?_; rintro e w5 ⟨g, rfl, hrow, hge, hB5⟩; obtain ⟨Y, hrY, hY, hYo⟩ := store26_run (j := i) (t := S) (HN.out.below hB5 HN.out.lt); have HE5 := Hid.mk (HEQL.out _ _ hB5 hrow); have HD5 := Hid.mk (HD.out.below hB5 HD.out.lt); clear HD; have HB5 := Hid.mk (HFIN.out _ _ hB5 hYo); have HY := Hid.mk hY; have HRY := Hid.mk hrY; clear hB5 hrY hY hYo hrow hge)
          | (go_at_call 28; refine HE5.out.mono ?_; rintro e w6 ⟨rfl, hw⟩; subst w6)
          | (refine wpL_load (.tmp 5) rfl rfl d i S rfl HD5.out ?_)
          | (refine wpL_store (.tmp 2) (.tmp 45) rfl rfl _ _ Y rfl rfl HRY.out ?_))
        exact bodyPost_ret (results_cell2 Try.results16 rfl HY.out) rfl ⟨by rw [HR.out.1, HR.out.2.1, HR.out.2.2, HLE.out, HSE.out]; rfl, HB5.out⟩

theorem read_any (w : World) (ao : Option Addr) (n c : Nat) (xs : List Int) (h : BAt w ao n xs) (hx : ∀ x ∈ xs, 0 ≤ x ∧ x ≤ 255) (hc : n ≤ c) (hc2 : c ≤ 9223372036854775807) :
    Calls Try.prog 16 #[.slice ao n c] w fun e w' => e = .returned (.tuple #[entV (rdI xs) (rdS xs), .int .i64 (rdE xs)]) ∧ Below w.heap.size w w' := by
  by_cases hn : n = 32
  · subst hn
    obtain ⟨a, rfl, -⟩ := h.at 0 (by omega)
    have hb := getD_bound xs hx 4
    obtain ⟨k, hk⟩ : ∃ k : Nat, xs.getD 4 0 = k := ⟨(xs.getD 4 0).toNat, by omega⟩
    by_cases hk1 : k ≤ 27
    · exact read_full w a c xs h hx hc hc2 k hk hk1
    · have hr := rd_no (xs := xs) (by unfold rdB; rw [hk, decide_eq_false (show ¬ ((k : Int) ≤ 27) by omega)]; simp)
      rw [hr.1, hr.2.1, hr.2.2]
      exact read_big w a c xs h k hk (by omega) (by omega)
  · have hr := rd_no (xs := xs) (by unfold rdB; rw [h.1, decide_eq_false hn]; rfl)
    rw [hr.1, hr.2.1, hr.2.2]
    exact read_short w ao n c hn
end Go.Proofs.Ytpdekpdlmfnndaa
